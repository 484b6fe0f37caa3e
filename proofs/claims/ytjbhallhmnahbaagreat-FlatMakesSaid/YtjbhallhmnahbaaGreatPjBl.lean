/-
  PjBl: FmC, FlZb, FrameN, FrameP, FmE.
-/
import Derived.Test.YtjbhallhmnahbaaGreatPjBk
import Derived.Test.YtjbhallhmnahbaaGreatPjBi
import Derived.Test.YtjbhallhmnahbaaGreatPjBf
import Derived.Test.YtjbhallhmnahbaaGreatPjBe
import Derived.Test.YtjbhallhmnahbaaGreatPjAp
import Derived.Test.YtjbhallhmnahbaaGreatPjAx
import Derived.Test.YtjbhallhmnahbaaGreatPjAa
import Derived.Deep.Grids
import Derived.Deep.CutBlock
import Derived.Deep.RegionHeld3

set_option linter.unusedVariables false

/-
  FlatMakes: what is asked of a nil list; Make where it may not be.
-/
namespace Go.Proofs.YtjbhallhmnahbaaGreat
open Go.RowKit
set_option linter.unusedVariables false

theorem fnil_find (l : Int) (w : World) : Calls Tryz.prog 59 #[.pointer none, .int .i64 l] w fun e w' => e = .returned (.tuple #[.pointer none, .int .i64 0, .int .i64 1]) ∧ w' = w := by
  go_enter Tryz.func59, Tryz.ntmps59
  go_wp2_with fail
  go_ret3
  exact ⟨rfl, rfl⟩
theorem fnil_where (l : Int) (w : World) : Calls Tryz.prog 31 #[.pointer none, .int .i64 l] w fun e w' => e = .returned (.tuple #[.int .i64 0, .int .i64 1]) ∧ w' = w := by
  go_enter Tryz.func31, Tryz.ntmps31
  go_wp2_with fail
  refine (fnil_find l w).mono ?_
  rintro e w2 ⟨rfl, rfl⟩
  go_wp2_with fail
  go_ret2
  exact ⟨rfl, rfl⟩
theorem fnil_read (l : Int) (w : World) : Calls Tryz.prog 22 #[.pointer none, .int .i64 l] w fun e w' => e = .returned (.tuple #[.string ⟨#[]⟩, .int .i64 1]) ∧ w' = w := by
  go_enter Tryz.func22, Tryz.ntmps22
  go_wp2_with fail
  refine (fnil_find l w).mono ?_
  rintro e w2 ⟨rfl, rfl⟩
  go_wp2_with fail
  go_ret2
  exact ⟨rfl, rfl⟩
theorem fnil_write (l : Int) (w : World) : Calls Tryz.prog 18 #[.pointer none, .int .i64 l, .string ⟨#[]⟩] w fun e w' => e = .returned (.int .i64 1) ∧ w' = w := by
  go_enter Tryz.func18, Tryz.ntmps18
  go_wp2_with fail
  refine (fnil_find l w).mono ?_
  rintro e w2 ⟨rfl, rfl⟩
  go_wp2_with fail
  go_ret
  exact ⟨rfl, rfl⟩
theorem fnil_ww (l : Int) (w : World) : Calls Tryz.prog 21 #[.pointer none, .int .i64 l, .int .i64 9, .int .u64 1] w fun e w' => e = .returned (.int .i64 1) ∧ w' = w := by
  go_enter Tryz.func21, Tryz.ntmps21
  go_wp2_with fail
  refine (fnil_find l w).mono ?_
  rintro e w2 ⟨rfl, rfl⟩
  go_wp2_with fail
  go_ret
  exact ⟨rfl, rfl⟩
theorem fnil_lines (w : World) : Calls Tryz.prog 30 #[.pointer none] w fun e w' => e = .returned (.int .i64 0) ∧ w' = w := by
  go_enter Tryz.func30, Tryz.ntmps30
  go_wp2_with fail
  go_ret
  exact ⟨rfl, rfl⟩
theorem fnil_region (l : Int) (w : World) : Calls Tryz.prog 40 #[.pointer none, .int .i64 l] w fun e w' => e = .returned (.int .i64 (-1)) ∧ w' = w := by
  by_cases h : l < 0
  · go_enter Tryz.func40, Tryz.ntmps40
    go_wp2_with fail
    go_ret
    exact ⟨rfl, rfl⟩
  · have h2 : 0 ≤ l := by omega
    go_enter Tryz.func40, Tryz.ntmps40
    go_wp2_with fail
    refine (fnil_lines w).mono ?_
    rintro e w2 ⟨rfl, rfl⟩
    go_wp2_with fail
    go_ret
    exact ⟨rfl, rfl⟩
theorem fnil_reg (l : Int) (w : World) : Calls Tryz.prog 80 #[.pointer none, .int .i64 l] w fun e w' => e = .returned (.pointer none) ∧ w' = w := by
  go_enter Tryz.func80, Tryz.ntmps80
  go_wp2_with fail
  go_ret
  exact ⟨rfl, rfl⟩
theorem rgnil_left (w : World) : Calls Tryz.prog 86 #[.pointer none] w fun e w' => e = .returned (.int .i64 0) ∧ w' = w := by
  go_enter Tryz.func86, Tryz.ntmps86
  go_wp2_with fail
  go_ret
  exact ⟨rfl, rfl⟩
theorem rgnil_state (w : World) : Calls Tryz.prog 81 #[.pointer none] w fun e w' => e = .returned (.agg #[.int .i64 0, .int .i64 0, .int .u32 0]) ∧ Gr [] w w' := by
  have HG := Lib.hid ((Gr.refl [] w).alloc (Obj.cells #[.int .i64 0, .int .i64 0, .int .u32 0] 154))
  go_enter Tryz.func81, Tryz.ntmps81
  go_wp2_with fail
  exact bodyPost_ret (v := .agg #[.int .i64 0, .int .i64 0, .int .u32 0]) (by simp [results, Tryz.results81, go_sem]) rfl ⟨rfl, HG.out⟩
theorem fnil_left (l : Int) (w : World) : Calls Tryz.prog 41 #[.pointer none, .int .i64 l] w fun e w' => e = .returned (.int .i64 0) ∧ w' = w := by
  go_enter Tryz.func41, Tryz.ntmps41
  go_wp2_with fail
  refine (fnil_reg l w).mono ?_
  rintro e w2 ⟨rfl, rfl⟩
  go_wp2_with fail
  refine (rgnil_left w2).mono ?_
  rintro e w3 ⟨rfl, rfl⟩
  go_wp2_with fail
  go_ret
  exact ⟨rfl, rfl⟩
theorem fld_moves (w : World) : (Instr.field 154 (.agg #[.int .i64 0, .int .i64 0, .int .u32 0]) 2).run Tryz.prog w = .ok (.int .u32 0) w := by kernel_rfl
theorem fnil_moves (l : Int) (w : World) : Calls Tryz.prog 34 #[.pointer none, .int .i64 l] w fun e w' => e = .returned (.int .u32 0) ∧ Gr [] w w' := by
  have hfl := fun W => fld_moves W
  go_enter Tryz.func34, Tryz.ntmps34
  go_wp2_with fail
  refine (fnil_reg l w).mono ?_
  rintro e w2 ⟨rfl, rfl⟩
  go_wp2_with fail
  refine (rgnil_state w2).mono ?_
  rintro e w3 ⟨rfl, g3⟩
  have HG := Lib.hid g3
  clear g3
  go_wp2_with fail
  go_ret
  exact ⟨rfl, HG.out⟩
theorem fnil_config (w : World) : Calls Tryz.prog 39 #[.pointer none] w fun e w' => e = .returned (.agg #[.int .i64 0, .int .i64 0, .int .i64 0, .int .i64 0, .int .u64 0]) ∧ Gr [] w w' := by
  have HG := Lib.hid ((Gr.refl [] w).alloc (Obj.cells #[.int .i64 0, .int .i64 0, .int .i64 0, .int .i64 0, .int .u64 0] 37))
  go_enter Tryz.func39, Tryz.ntmps39
  go_wp2_with fail
  exact bodyPost_ret (v := .agg #[.int .i64 0, .int .i64 0, .int .i64 0, .int .i64 0, .int .u64 0]) (by simp [results, Tryz.results39, go_sem]) rfl ⟨rfl, HG.out⟩
theorem fmake_nil (C : CfgZ) (w : World) : Calls Tryz.prog 13 #[.pointer none, cfgV C] w fun e w' => e = .returned (.int .i64 1) ∧ Gr [] w w' := by
  have HG := Lib.hid ((Gr.refl [] w).alloc (Obj.cells #[.int .i64 C.r, .int .i64 C.l, .int .i64 C.s, .int .i64 C.psi, .int .u64 (C.key : Int)] 37))
  unfold cfgV
  go_enter Tryz.func13, Tryz.ntmps13
  go_wp2_with fail
  go_ret
  exact ⟨rfl, HG.out⟩
set_option maxRecDepth 100000 in
set_option maxHeartbeats 8000000 in
theorem fmake_err {w : World} {a : DevA} {D : DevS} (h : DevIs w a D) (C : CfgZ) (hC : wfC C) (he : checkC C (D.n : Int) ≠ 0) :
    Calls Tryz.prog 13 #[.pointer (some ⟨a.bd, 0, none⟩), cfgV C] w fun e w' => e = .returned (.int .i64 (checkC C (D.n : Int))) ∧ Gr [] w w' := by
  have HCk := Lib.hid (fun W => show Calls Tryz.prog 36 #[.agg #[.int .i64 C.r, .int .i64 C.l, .int .i64 C.s, .int .i64 C.psi, .int .u64 (C.key : Int)], .int .i64 (D.n : Int)] W _ from ccheck_any C hC (D.n : Int) W)
  obtain ⟨ck, hck⟩ : ∃ ck, ck = checkC C (D.n : Int) := ⟨_, rfl⟩
  rw [← hck] at he HCk ⊢
  have hb : (ck == 0) = false := by simpa using he
  have HG := Lib.hid ((Gr.refl [] w).alloc (Obj.cells #[.int .i64 C.r, .int .i64 C.l, .int .i64 C.s, .int .i64 C.psi, .int .u64 (C.key : Int)] 37))
  have hh := Holds.new w #[.int .i64 C.r, .int .i64 C.l, .int .i64 C.s, .int .i64 C.psi, .int .u64 (C.key : Int)] 37
  have HD := Lib.hid (h.gr0 HG.out)
  clear h hck he hC
  unfold cfgV
  go_enter Tryz.func13, Tryz.ntmps13
  go_upto_region 1 with fail
  generalize (w.alloc (Obj.cells #[.int .i64 C.r, .int .i64 C.l, .int .i64 C.s, .int .i64 C.psi, .int .u64 (C.key : Int)] 37)) = w1 at *
  obtain ⟨cb, hcb⟩ : ∃ cb, w.heap.size = cb := ⟨_, rfl⟩
  rw [hcb] at hh ⊢
  clear hcb
  go_upto_region 3 with fail
  have k0 := kp_cell (hh.cell 0)
  have k1 := kp_cell (hh.cell 1)
  have k2 := kp_cell (hh.cell 2)
  have k3 := kp_cell (hh.cell 3)
  have k4 := kp_cell (hh.cell 4)
  have hne := kp_ne w1
  clear hh
  first
    | (refine wp_region_kp (by kernel_rfl) (by kernel_rfl) ?_
       repeat (go_big_quiet_step ((rename_i x; first
         | with_reducible exact kp_call x (linesK (HD.out.kp x.h))
         | with_reducible exact kp_call x ((HCk.out _).mono fun _ _ q => ⟨q.1, q.2.below0⟩))))
       with_reducible refine wpQuiet_nil ?_)
  rintro _ ⟨y, rfl⟩
  have gy : Gr [] w1 y.w := Gr.ofBelow (cs := []) y.h
  have H5 := Lib.hid (HG.out.trans gy)
  clear gy HG HD k0 k1 k2 k3 k4 hne
  generalize y.w = w5 at *
  clear y
  go_wp2_with fail
  go_ret
  exact ⟨rfl, H5.out⟩
end Go.Proofs.YtjbhallhmnahbaaGreat

/-
  Layer 9, pure: what a torn head says; a write of a region none of whose lines is bad, wherever the power fails.
-/
namespace Go.Proofs.YtjbhallhmnahbaaGreat
open Go.RowKit
set_option linter.unusedVariables false

theorem head_word0 (C : CfgZ) : wdL (headL C) 0 ≠ 0 := by
  have e : ((headL C).drop (8 * 0)).take 8 = magL := by
    unfold headL preL
    rw [Nat.mul_zero, List.drop_zero, List.append_assoc]
    exact List.take_left' rfl
  unfold wdL
  rw [e]
  decide +kernel
section
variable {C : CfgZ} {D0 D' : DevS} {S : ByteArray}
end
section
variable {P : PlanR} {D : DevS} {B : BkS} {j i0 : Nat} {F : Nat → Nat → Nat}
end
end Go.Proofs.YtjbhallhmnahbaaGreat

/-
  Slices of acts (three integers, a word, a text, a list of bools) that come in as an argument of a law, opened.
-/
namespace Go.Proofs.YtjbhallhmnahbaaGreat
open Go.ChangeShapes Go.WideShapes Go.ChangeAt Go.RowKit
set_option linter.unusedVariables false

structure ActL where
  d : Int
  z : Int
  k : Int
  v : Nat
  s : ByteArray
  ao : Option Addr
  kl : Nat
  kc : Nat
  kp : Nat → Bool
def I64 (x : Int) : Prop := -9223372036854775808 ≤ x ∧ x ≤ 9223372036854775807
end Go.Proofs.YtjbhallhmnahbaaGreat

/-
  A config (four integers, a word) that comes in as an argument of a law, opened.
-/
namespace Go.Proofs.YtjbhallhmnahbaaGreat
open Go.ChangeShapes Go.WideShapes Go.ChangeAt Go.RowKit
set_option linter.unusedVariables false

def CfgB (x0 x1 x2 x3 : Int) (x4 : Nat) : Prop := I64 x0 ∧ I64 x1 ∧ I64 x2 ∧ I64 x3 ∧ x4 < 18446744073709551616
theorem okWide_strP {P : Program} {w : World} {r : Reach} {base : Nat} {t : TypeId} {v : Value} {fs : Array Field} (ht : P.underlying t = some (.struct fs)) (h : Value.okWide P w r base t v) : ∃ cs, v = .agg cs ∧ cs.size = P.cellsOf t := by
  simp only [Value.okWide, ht] at h
  obtain ⟨cs, h1, h2, _⟩ := h
  exact ⟨cs, h1, h2⟩
theorem open_cfg {H : Type} {enc : TypeId × Value → H} {P : Program} {w : World} {base : Nat} {held : Bool} {T : TypeId} {fs : Array Field} {f0 f1 f2 f3 f4 : Field} {v : Value} {b0 : Nat} {d : DataW H} {p : List MemPlace}
    (he : P.underlying T = some (.struct fs)) (h0 : fs[0]? = some f0) (h1 : fs[1]? = some f1) (h2 : fs[2]? = some f2) (h3 : fs[3]? = some f3) (h4 : fs[4]? = some f4)
    (o0 : f0.offset = 0) (o1 : f1.offset = 1) (o2 : f2.offset = 2) (o3 : f3.offset = 3) (o4 : f4.offset = 4)
    (t0 : P.underlying f0.type = some (.int .i64)) (t1 : P.underlying f1.type = some (.int .i64)) (t2 : P.underlying f2.type = some (.int .i64)) (t3 : P.underlying f3.type = some (.int .i64)) (t4 : P.underlying f4.type = some (.int .u64))
    (c0 : P.cellsOf f0.type = 1) (c1 : P.cellsOf f1.type = 1) (c2 : P.cellsOf f2.type = 1) (c3 : P.cellsOf f3.type = 1) (c4 : P.cellsOf f4.type = 1) (cT : P.cellsOf T = 5)
    (hv : Value.okWide P w .any b0 T v) (h : DataW.Trod enc P w base (fun _ => true) held T v d p) : ∃ (x0 x1 x2 x3 : Int) (x4 : Nat), v = .agg #[.int .i64 x0, .int .i64 x1, .int .i64 x2, .int .i64 x3, .int .u64 (x4 : Int)] ∧ CfgB x0 x1 x2 x3 x4 := by
  obtain ⟨cs, rfl, hsz⟩ := okWide_strP he hv
  obtain ⟨fuel, hf⟩ := h
  have hf' : DataW.trod enc P w base (fun _ => true) held fuel T cs.toList = some (d, p) := hf
  obtain ⟨ys, n, _, _, hl, hy, hi⟩ := DataW.trod_struct he hf'
  have hsf : 4 < fs.size := (Array.getElem?_eq_some_iff.1 h4).1
  have key : ∀ (i : Nat) (v : Value), (cs.toList.drop i).take 1 = [v] → cs.toList[i]? = some v := fun i v hd => by
    have : (List.take 1 (List.drop i cs.toList))[0]? = some v := by rw [hd]; rfl
    rw [List.getElem?_take_of_lt (by omega), List.getElem?_drop, Nat.add_zero] at this
    exact this
  have r0 := hi 0 f0 h0
  have r1 := hi 1 f1 h1
  have r2 := hi 2 f2 h2
  have r3 := hi 3 f3 h3
  have r4 := hi 4 f4 h4
  rw [o0, c0, List.getElem?_eq_getElem (by omega)] at r0
  rw [o1, c1, List.getElem?_eq_getElem (by omega)] at r1
  rw [o2, c2, List.getElem?_eq_getElem (by omega)] at r2
  rw [o3, c3, List.getElem?_eq_getElem (by omega)] at r3
  rw [o4, c4, List.getElem?_eq_getElem (by omega)] at r4
  obtain ⟨x0, e0, _, w0⟩ := DataW.trod_int t0 r0
  obtain ⟨x1, e1, _, w1⟩ := DataW.trod_int t1 r1
  obtain ⟨x2, e2, _, w2⟩ := DataW.trod_int t2 r2
  obtain ⟨x3, e3, _, w3⟩ := DataW.trod_int t3 r3
  obtain ⟨x4, e4, _, w4⟩ := DataW.trod_int t4 r4
  obtain ⟨u, rfl, hu⟩ := natU64 w4
  refine ⟨x0, x1, x2, x3, u, ?_, bounds_i64 w0, bounds_i64 w1, bounds_i64 w2, bounds_i64 w3, hu⟩
  have k0 := key 0 _ e0
  have k1 := key 1 _ e1
  have k2 := key 2 _ e2
  have k3 := key 3 _ e3
  have k4 := key 4 _ e4
  have hlen : cs.toList.length = 5 := by simpa [cT] using hsz
  have : cs.toList = [.int .i64 x0, .int .i64 x1, .int .i64 x2, .int .i64 x3, .int .u64 (u : Int)] := by
    apply List.ext_getElem?
    intro i
    match i with
    | 0 => rw [k0]; rfl
    | 1 => rw [k1]; rfl
    | 2 => rw [k2]; rfl
    | 3 => rw [k3]; rfl
    | 4 => rw [k4]; rfl
    | n + 5 => rw [List.getElem?_eq_none (by omega), List.getElem?_eq_none (by simp)]
  congr 1
  exact Array.ext' this
end Go.Proofs.YtjbhallhmnahbaaGreat

/-
  FlatMakes.
-/
namespace Go.Proofs.YtjbhallhmnahbaaGreat
open Go.RowKit
set_option linter.unusedVariables false

theorem new_form (n : Nat) : headS (parZ (⟨(getT (newD n) 0).toArray⟩ : ByteArray).data.toList) ≠ (⟨(getT (newD n) 0).toArray⟩ : ByteArray) := by
  intro q
  have hw := line_words (newD_gud n).2.1 (fun _ => by show 0 < _; omega) (l := 0) 0 (by omega)
  rw [← q] at hw
  exact head_word0 _ hw
/-- The law's two configs, the same. -/
structure Mk9 (w : World) (b8 b10 : Nat) (C : CfgZ) (wr : World) : Prop where
  gr : Gr [] w wr
  r : Holds wr b8 #[.int .i64 C.r, .int .i64 C.l, .int .i64 C.s, .int .i64 C.psi, .int .u64 (C.key : Int)] 26
  q : Holds wr b10 #[.int .i64 C.r, .int .i64 C.l, .int .i64 C.s, .int .i64 C.psi, .int .u64 (C.key : Int)] 37
theorem Mk9.next0 {w wr w2 : World} {b8 b10 : Nat} {C : CfgZ} (h : Mk9 w b8 b10 C wr) (g : Gr [] wr w2) : Mk9 w b8 b10 C w2 := ⟨h.gr.trans g, h.r.gr0 g, h.q.gr0 g⟩
theorem five9 {W : World} {b : Nat} {x0 x1 x2 x3 x4 : Value} {T : TypeId} (h : Holds W b #[x0, x1, x2, x3, x4] T) : W.cell? ⟨b, 0, none⟩ = some x0 ∧ W.cell? ⟨b, 1, none⟩ = some x1 ∧ W.cell? ⟨b, 2, none⟩ = some x2 ∧ W.cell? ⟨b, 3, none⟩ = some x3 ∧ W.cell? ⟨b, 4, none⟩ = some x4 := ⟨h.cell 0, h.cell 1, h.cell 2, h.cell 3, h.cell 4⟩
set_option maxRecDepth 100000 in
set_option maxHeartbeats 40000000 in
theorem fmakes_law (x0 x1 x2 x3 : Int) (x4 : Nat) (n l : Int) {w : World} (hx : CfgB x0 x1 x2 x3 x4) :
    Calls Tryz.prog 4 #[.agg #[.int .i64 x0, .int .i64 x1, .int .i64 x2, .int .i64 x3, .int .u64 (x4 : Int)], .int .i64 n, .int .i64 l] w fun e w' => e = .returned (.bool true) ∧ Gr [] w w' := by
  have HSm := Lib.hid (fun W => small09 x0 x1 x2 x3 x4 W)
  obtain ⟨P, hP⟩ : ∃ C, C = smallC x0 x1 x2 x3 x4 := ⟨_, rfl⟩
  have hok := smallC_ok x0 x1 x2 x3 x4 hx.2.2.2.2
  rw [← hP] at HSm hok
  unfold cfgV at HSm
  have HW1 := Lib.hid (show wfC ⟨x0, x1, x2, x3, x4⟩ from ⟨hx.2.1, hx.1⟩)
  have HW2 := Lib.hid hok.1.wf.1
  have HA := Holds.new w #[.int .i64 x0, .int .i64 x1, .int .i64 x2, .int .i64 x3, .int .u64 (x4 : Int)] 24
  have HG0 := Lib.hid ((Gr.refl [] w).alloc (Obj.cells #[.int .i64 x0, .int .i64 x1, .int .i64 x2, .int .i64 x3, .int .u64 (x4 : Int)] 24))
  clear hP hok hx
  go_enter Tryz.func4, Tryz.ntmps4
  go_upto_region 1 with fail
  generalize (w.alloc (Obj.cells #[.int .i64 x0, .int .i64 x1, .int .i64 x2, .int .i64 x3, .int .u64 (x4 : Int)] 24)) = w1 at *
  obtain ⟨xb, hxb⟩ : ∃ xb, w.heap.size = xb := ⟨_, rfl⟩
  rw [hxb] at HA ⊢
  clear hxb
  go_cut [27, 28, 29] (fun v nn ii wz => nn = .int .i64 2 ∧ ii = .int .i64 0 ∧ ∃ bb : Nat, v = .slice (some ⟨bb, 0, none⟩) 2 2 ∧ Holds wz bb #[.int .i64 x0, .int .i64 x1, .int .i64 x2, .int .i64 x3, .int .u64 (x4 : Int), .int .i64 P.r, .int .i64 P.l, .int .i64 P.s, .int .i64 P.psi, .int .u64 (P.key : Int)] 26 ∧ Gr [] w wz)
  case first =>
    have s0 := five9 HA
    have HH := Lib.hid HA
    clear HA HW1 HW2
    go_region_held3 (fun w' : World => w'.cell? ⟨xb, 0, none⟩ = some (.int .i64 x0) ∧ w'.cell? ⟨xb, 1, none⟩ = some (.int .i64 x1) ∧ w'.cell? ⟨xb, 2, none⟩ = some (.int .i64 x2) ∧ w'.cell? ⟨xb, 3, none⟩ = some (.int .i64 x3) ∧ w'.cell? ⟨xb, 4, none⟩ = some (.int .u64 (x4 : Int))) (first | assumption | go_keep) ((go_at_call 8; (with_reducible refine Calls.mono (HSm.out _) ?_); rintro r w3 ⟨rfl, g3⟩; have G3 : Gr [] w1 w3 := (by refine Gr.next0 ?_ g3; (repeat (with_reducible first | exact Gr.refl _ _ | refine Gr.alloc ?_ _ | refine Gr.drew ?_))); clear g3; have s3 := five9 (HH.out.gr0 G3)))
    go_wp2_with fail
    go_meet
    have ga := (Gr.refl [] w3).alloc (Obj.cells #[.int .i64 x0, .int .i64 x1, .int .i64 x2, .int .i64 x3, .int .u64 (x4 : Int), .int .i64 P.r, .int .i64 P.l, .int .i64 P.s, .int .i64 P.psi, .int .u64 (P.key : Int)] 26)
    exact ⟨rfl, rfl, _, rfl, Holds.new _ _ _, (HG0.out.trans G3).next0 ga⟩
  case rest =>
    obtain ⟨rfl, rfl, bb, rfl, hrow, hg⟩ := hcut
    rename_i wc _
    have HW := Lib.hid (And.intro hrow hg)
    clear hrow hg HA HSm HG0
    go_wp2_with fail
    go_loopw [29] (fun k wr => ∃ j : Nat, j ≤ 2 ∧ k = .int .i64 j ∧ Gr [] wc wr) (fun k _ => 2 - (intOf k).toNat)
    case atStart => exact ⟨0, by omega, rfl, Gr.refl _ _⟩
    case round =>
      obtain ⟨j, hj, rfl, G⟩ := hrel
      by_cases hj2 : j < 2
      · have hj3 : (j : Int) < 2 := by omega
        obtain ⟨C, hC, y0, y1, y2, y3, y4⟩ : ∃ C : CfgZ, wfC C ∧ wr.cell? ⟨bb, j * 5, none⟩ = some (.int .i64 C.r) ∧ wr.cell? ⟨bb, j * 5 + 1, none⟩ = some (.int .i64 C.l) ∧ wr.cell? ⟨bb, j * 5 + 2, none⟩ = some (.int .i64 C.s) ∧ wr.cell? ⟨bb, j * 5 + 3, none⟩ = some (.int .i64 C.psi) ∧ wr.cell? ⟨bb, j * 5 + 4, none⟩ = some (.int .u64 (C.key : Int)) := by
          have hh := HW.out.1.gr0 G
          by_cases c : j = 0
          · subst c
            exact ⟨⟨x0, x1, x2, x3, x4⟩, HW1.out, hh.cell 0, hh.cell 1, hh.cell 2, hh.cell 3, hh.cell 4⟩
          · obtain rfl : j = 1 := by omega
            exact ⟨P, HW2.out, hh.cell 5, hh.cell 6, hh.cell 7, hh.cell 8, hh.cell 9⟩
        have HRC := Lib.hid (fun W => show Calls Tryz.prog 35 #[.agg #[.int .i64 C.r, .int .i64 C.l, .int .i64 C.s, .int .i64 C.psi, .int .u64 (C.key : Int)], .int .i64 n] W _ from rcheck9 C n W)
        have HR8 := Lib.hid (fun W => show Calls Tryz.prog 35 #[.agg #[.int .i64 C.r, .int .i64 C.l, .int .i64 C.s, .int .i64 C.psi, .int .u64 (C.key : Int)], .int .i64 8] W _ from rcheck9 C 8 W)
        have HPC := Lib.hid (fun W => show Calls Tryz.prog 36 #[.agg #[.int .i64 C.r, .int .i64 C.l, .int .i64 C.s, .int .i64 C.psi, .int .u64 (C.key : Int)], .int .i64 n] W _ from ccheck_any C hC n W)
        have HPZ := Lib.hid (fun W => show Calls Tryz.prog 37 #[.agg #[.int .i64 C.r, .int .i64 C.l, .int .i64 C.s, .int .i64 C.psi, .int .u64 (C.key : Int)]] W _ from csize_any C hC W)
        have HMN := Lib.hid (fun W => show Calls Tryz.prog 13 #[.pointer none, .agg #[.int .i64 C.r, .int .i64 C.l, .int .i64 C.s, .int .i64 C.psi, .int .u64 (C.key : Int)]] W _ from fmake_nil C W)
        have HRS := Lib.hid (fun (h : sizeC C ≠ 0) W => show Calls Tryz.prog 9 #[.agg #[.int .i64 C.r, .int .i64 C.l, .int .i64 C.s, .int .i64 C.psi, .int .u64 (C.key : Int)]] W (fun e w' => e = .returned (.int .i64 (sizeC C)) ∧ Gr [] W w') from rsize9 C (by
          by_cases q : 1 ≤ C.r ∧ C.r ≤ 16 ∧ okP C
          · exact q
          · exact absurd (by unfold sizeC; rw [if_neg q]) h) W)
        have HME := Lib.hid (fun (a : DevA) W (d : DevIs W a (newD 8)) (h : checkC C 8 ≠ 0) => show Calls Tryz.prog 13 #[.pointer (some ⟨a.bd, 0, none⟩), .agg #[.int .i64 C.r, .int .i64 C.l, .int .i64 C.s, .int .i64 C.psi, .int .u64 (C.key : Int)]] W (fun e w' => e = .returned (.int .i64 (checkC C 8)) ∧ Gr [] W w') from fmake_err d C hC h)
        have HS0 := Lib.hid (sizeC_zero (C := C) (n := n))
        obtain ⟨cN, hcN⟩ : ∃ cN, cN = checkC C n := ⟨_, rfl⟩
        rw [← hcN] at HRC HPC HS0
        obtain ⟨sz, hsz⟩ : ∃ sz, sz = sizeC C := ⟨_, rfl⟩
        rw [← hsz] at HPZ HRS HS0
        obtain ⟨c8, hc8⟩ : ∃ c8, c8 = checkC C 8 := ⟨_, rfl⟩
        rw [← hc8] at HR8 HME
        clear hcN hsz hc8 hC
        have hx1 := Holds.new wr #[.int .i64 C.r, .int .i64 C.l, .int .i64 C.s, .int .i64 C.psi, .int .u64 (C.key : Int)] 26
        have gX := (Gr.refl [] wr).alloc (Obj.cells #[.int .i64 C.r, .int .i64 C.l, .int .i64 C.s, .int .i64 C.psi, .int .u64 (C.key : Int)] 26)
        have HX := Lib.hid (And.intro hx1 (G.next0 gX))
        clear hx1 gX G
        go_upto_region 4 with fail
        generalize wr.alloc (Obj.cells #[.int .i64 C.r, .int .i64 C.l, .int .i64 C.s, .int .i64 C.psi, .int .u64 (C.key : Int)] 26) = wx at *
        obtain ⟨b8, hb8⟩ : ∃ b8, wr.heap.size = b8 := ⟨_, rfl⟩
        rw [hb8] at HX ⊢
        clear hb8 y0 y1 y2 y3 y4
        obtain ⟨c0, c1, c2, c3, c4⟩ := five9 HX.out.1
        go_wp2_with fail
        refine (HRC.out _).mono ?_
        rintro e w2 ⟨rfl, g2⟩
        have hy := Holds.new w2 #[.int .i64 C.r, .int .i64 C.l, .int .i64 C.s, .int .i64 C.psi, .int .u64 (C.key : Int)] 37
        have gY := (Gr.refl [] w2).alloc (Obj.cells #[.int .i64 C.r, .int .i64 C.l, .int .i64 C.s, .int .i64 C.psi, .int .u64 (C.key : Int)] 37)
        have H3 := Lib.hid (show Mk9 wc b8 w2.heap.size C (w2.alloc (Obj.cells #[.int .i64 C.r, .int .i64 C.l, .int .i64 C.s, .int .i64 C.psi, .int .u64 (C.key : Int)] 37)) from ⟨(HX.out.2.trans g2).trans gY, (HX.out.1.gr0 g2).gr0 gY, hy⟩)
        obtain ⟨c0, c1, c2, c3, c4⟩ := five9 (HX.out.1.gr0 g2)
        go_upto_region 6 with fail
        clear g2 hy gY c0 c1 c2 c3 c4 HX HRC
        generalize w2.alloc (Obj.cells #[.int .i64 C.r, .int .i64 C.l, .int .i64 C.s, .int .i64 C.psi, .int .u64 (C.key : Int)] 37) = w3 at *
        obtain ⟨b10, hb10⟩ : ∃ b10, w2.heap.size = b10 := ⟨_, rfl⟩
        rw [hb10] at H3 ⊢
        clear hb10
        go_upto_if 38 with fail
        go_cut [11] (fun sv wz => sv = .int .i64 sz ∧ Mk9 wc b8 b10 C wz)
        case first =>
          by_cases h2 : cN = 2
          · obtain rfl : sz = 0 := HS0.out.1 h2
            have hb : (cN != 2) = false := by simpa using h2
            clear HR8 HPC HPZ HMN HRS HME HS0
            subst h2
            go_wp2_with fail
            go_meet
            exact ⟨rfl, H3.out⟩
          · have hb : (cN != 2) = true := by simpa using h2
            have HRs := Lib.hid (fun W => HRS.out (fun q => h2 (HS0.out.2 q)) W)
            obtain ⟨c0, c1, c2, c3, c4⟩ := five9 H3.out.r
            clear HR8 HPC HPZ HMN HRS HME HS0
            go_wp2_with fail
            refine (HRs.out _).mono ?_
            rintro e w4 ⟨rfl, g4⟩
            have H4 := Lib.hid (H3.out.next0 g4)
            clear g4 c0 c1 c2 c3 c4 H3
            go_wp2_with fail
            go_meet
            exact ⟨rfl, H4.out⟩
        case rest =>
          obtain ⟨rfl, hmk⟩ := hcut
          have H4 := Lib.hid hmk
          clear hmk H3 HS0 HRS
          obtain ⟨c0, c1, c2, c3, c4⟩ := five9 H4.out.r
          obtain ⟨d0, d1, d2, d3, d4⟩ := five9 H4.out.q
          go_wp2_with fail
          refine (HPC.out _).mono ?_
          rintro e w5 ⟨rfl, g5⟩
          have H5 := Lib.hid (H4.out.next0 g5)
          clear g5 H4 c0 c1 c2 c3 c4 d0 d1 d2 d3 d4
          obtain ⟨c0, c1, c2, c3, c4⟩ := five9 H5.out.r
          obtain ⟨d0, d1, d2, d3, d4⟩ := five9 H5.out.q
          go_wp2_with fail
          refine (HPZ.out _).mono ?_
          rintro e w6 ⟨rfl, g6⟩
          have H6 := Lib.hid (H5.out.next0 g6)
          clear g6 H5 c0 c1 c2 c3 c4 d0 d1 d2 d3 d4
          obtain ⟨c0, c1, c2, c3, c4⟩ := five9 H6.out.r
          obtain ⟨d0, d1, d2, d3, d4⟩ := five9 H6.out.q
          go_wp2_with fail
          refine (HMN.out _).mono ?_
          rintro e w7 ⟨rfl, g7⟩
          have H7 := Lib.hid (H6.out.next0 g7)
          clear g7 H6 c0 c1 c2 c3 c4 d0 d1 d2 d3 d4
          obtain ⟨c0, c1, c2, c3, c4⟩ := five9 H7.out.r
          obtain ⟨d0, d1, d2, d3, d4⟩ := five9 H7.out.q
          go_wp2_with fail
          refine (pmnew_yes 8 _ (by omega) (by omega)).mono ?_
          rintro e w8 ⟨a, rfl, d8, _, g8⟩
          have HD := Lib.hid d8
          have H8 := Lib.hid (H7.out.next0 g8)
          clear d8 g8 H7 c0 c1 c2 c3 c4 d0 d1 d2 d3 d4
          obtain ⟨c0, c1, c2, c3, c4⟩ := five9 H8.out.r
          obtain ⟨d0, d1, d2, d3, d4⟩ := five9 H8.out.q
          go_wp2_with fail
          refine (HR8.out _).mono ?_
          rintro e w9 ⟨rfl, g9⟩
          have HD := Lib.hid (HD.out.gr0 g9)
          have H9 := Lib.hid (H8.out.next0 g9)
          clear g9 H8 HR8 HPC HPZ HMN c0 c1 c2 c3 c4 d0 d1 d2 d3 d4
          obtain ⟨c0, c1, c2, c3, c4⟩ := five9 H9.out.r
          obtain ⟨d0, d1, d2, d3, d4⟩ := five9 H9.out.q
          by_cases hc0 : c8 = 0
          · subst hc0
            clear HME
            go_wp2_with fail
            go_roundw
            case rel => exact ⟨j + 1, by omega, by go_num, H9.out.gr⟩
            case measure => simp [intOf]; omega
          · have hb : (c8 != 0) = true := by simpa using hc0
            have HN0 := Lib.hid hc0
            clear hc0
            go_wp2_with fail
            refine (HME.out a _ HD.out HN0.out).mono ?_
            rintro e w10 ⟨rfl, g10⟩
            have HD := Lib.hid (HD.out.gr0 g10)
            have H10 := Lib.hid (H9.out.next0 g10)
            clear g10 H9 HME c0 c1 c2 c3 c4 d0 d1 d2 d3 d4
            have HCn := Lib.hid (count_any a (newD 8) w10 HD.out)
            rw [show (((newD 8).cnt : Nat) : Int) = 0 from rfl] at HCn
            go_wp2_with fail
            refine HCn.out.mono ?_
            rintro e w11 ⟨rfl, rfl⟩
            have HOp := Lib.hid (fopen_form (S := ⟨(getT (newD 8) 0).toArray⟩) HD.out rfl rfl (.inl (new_form 8)))
            go_wp2_with fail
            refine HOp.out.mono ?_
            rintro e w12 ⟨rfl, g12⟩
            have H12 := Lib.hid (H10.out.next0 g12)
            clear g12 H10 HOp HCn HD
            go_wp2_with fail
            go_roundw
            case rel => exact ⟨j + 1, by omega, by go_num, H12.out.gr⟩
            case measure => simp [intOf]; omega
      · obtain rfl : j = 2 := by omega
        have hj3 : ¬ (((2 : Nat) : Int) < 2) := by omega
        have HG := Lib.hid (HW.out.2.trans G)
        clear G HW HW1 HW2
        have heq : ∀ W : World, (binOp .eql 37 (.agg #[.int .i64 0, .int .i64 0, .int .i64 0, .int .i64 0, .int .u64 0]) (.agg #[.int .i64 0, .int .i64 0, .int .i64 0, .int .i64 0, .int .u64 0])).run Tryz.prog W = .ok (.bool true) W := fun W => by kernel_rfl
        go_wp2_with fail
        refine (fnil_where l _).mono ?_
        rintro e w2 ⟨rfl, rfl⟩
        go_wp2_with fail
        refine (fnil_read l _).mono ?_
        rintro e w3 ⟨rfl, rfl⟩
        go_wp2_with fail
        refine (fopen_nil _).mono ?_
        rintro e w4 ⟨rfl, g4⟩
        have H4 := Lib.hid (HG.out.trans g4)
        clear g4 HG
        go_wp2_with fail
        refine (wakes09 _).mono ?_
        rintro e w5 ⟨rfl, g5⟩
        have H5 := Lib.hid (H4.out.trans g5)
        clear g5 H4
        go_wp2_with fail
        refine (fnil_write l _).mono ?_
        rintro e w6 ⟨rfl, rfl⟩
        go_wp2_with fail
        refine (fnil_ww l _).mono ?_
        rintro e w7 ⟨rfl, rfl⟩
        go_wp2_with fail
        refine (fnil_config _).mono ?_
        rintro e w8 ⟨rfl, g8⟩
        have H8 := Lib.hid (H5.out.trans g8)
        clear g8 H5
        go_wp2_with fail
        refine (fnil_lines _).mono ?_
        rintro e w9 ⟨rfl, rfl⟩
        go_wp2_with fail
        refine (fnil_region l _).mono ?_
        rintro e w10 ⟨rfl, rfl⟩
        go_wp2_with fail
        refine (fnil_moves l _).mono ?_
        rintro e w11 ⟨rfl, g11⟩
        have H11 := Lib.hid (H8.out.trans g11)
        clear g11 H8
        go_wp2_with fail
        refine (fnil_left l _).mono ?_
        rintro e w12 ⟨rfl, rfl⟩
        go_wp2_with fail
        go_ret
        exact ⟨rfl, H11.out⟩

theorem walk_FlatMakes (x0 x1 x2 x3 : Int) (x4 : Nat) (n l : Int) {w : World} (hx : CfgB x0 x1 x2 x3 x4) (_hn : (Lit.int .i64 n).wf = true) (_hl : (Lit.int .i64 l).wf = true) :
    Calls Tryz.prog 4 #[.agg #[.int .i64 x0, .int .i64 x1, .int .i64 x2, .int .i64 x3, .int .u64 (x4 : Int)], .int .i64 n, .int .i64 l] w fun e w' => e = .returned (.bool true) ∧ Below w.heap.size w w' :=
  (fmakes_law x0 x1 x2 x3 x4 n l hx).mono fun _ _ q => ⟨q.1, q.2.below0⟩
end Go.Proofs.YtjbhallhmnahbaaGreat
