/-
  HqAc: FrameV, HtV.
-/
import Derived.Test.YtefmbchebobceaaGreatHkAa
import Derived.Test.YtefmbchebobceaaGreatHkAb
import Derived.Test.YtefmbchebobceaaGreatHkAc
import Derived.Test.YtefmbchebobceaaGreatHkAd
import Derived.Test.YtefmbchebobceaaGreatHkAe
import Derived.Test.YtefmbchebobceaaGreatHkAf
import Derived.Test.YtefmbchebobceaaGreatHkAg
import Derived.Test.YtefmbchebobceaaGreatHkAh
import Derived.Test.YtefmbchebobceaaGreatHkAi
import Derived.Test.YtefmbchebobceaaGreatHkAj
import Derived.Test.YtefmbchebobceaaGreatHkAk
import Derived.Test.YtefmbchebobceaaGreatHkAl
import Derived.Test.YtefmbchebobceaaGreatHkAm
import Derived.Test.YtefmbchebobceaaGreatHkAn
import Derived.Test.YtefmbchebobceaaGreatHkAo
import Derived.Test.YtefmbchebobceaaGreatHkAp
import Derived.Test.YtefmbchebobceaaGreatHkAq
import Derived.Test.YtefmbchebobceaaGreatHkAr
import Derived.Test.YtefmbchebobceaaGreatHkAs
import Derived.Test.YtefmbchebobceaaGreatHkAt
import Derived.Test.YtefmbchebobceaaGreatHkAu
import Derived.Test.YtefmbchebobceaaGreatHkAv
import Derived.Test.YtefmbchebobceaaGreatHkAw
import Derived.Test.YtefmbchebobceaaGreatHkAx
import Derived.Test.YtefmbchebobceaaGreatHkAy
import Derived.Test.YtefmbchebobceaaGreatHkAz
import Derived.Test.YtefmbchebobceaaGreatHkBa
import Derived.Test.YtefmbchebobceaaGreatHkBb
import Derived.Test.YtefmbchebobceaaGreatHkBc
import Derived.Test.YtefmbchebobceaaGreatHkBd
import Derived.Test.YtefmbchebobceaaGreatHkBe
import Derived.Test.YtefmbchebobceaaGreatHkBf
import Derived.Test.YtefmbchebobceaaGreatHkBg
import Derived.Test.YtefmbchebobceaaGreatHkBh
import Derived.Test.YtefmbchebobceaaGreatHkBi
import Derived.Test.YtefmbchebobceaaGreatHkBj
import Derived.Test.YtefmbchebobceaaGreatHkBk
import Derived.Test.YtefmbchebobceaaGreatHpAa
import Derived.Test.YtefmbchebobceaaGreatHpAb
import Derived.Test.YtefmbchebobceaaGreatHpAc
import Derived.Test.YtefmbchebobceaaGreatHpAd
import Derived.Test.YtefmbchebobceaaGreatHpAe
import Derived.Test.YtefmbchebobceaaGreatHpAf
import Derived.Test.YtefmbchebobceaaGreatHpAg
import Derived.Test.YtefmbchebobceaaGreatHpAh
import Derived.Test.YtefmbchebobceaaGreatHqAb
import Derived.Test.YtefmbchebobceaaGreatHqAa
import Derived.Deep.RegionHeld3
import Derived.BigRegion
import Derived.Test.YtefmbchebobceaaGreatRows
import Derived.WalkKit
import Derived.Handy
import Derived.Lib.Hide
import Derived.Deep.QuietTactic
import Derived.BigQuiet
import Derived.KernelRfl
import Derived.Deep.AppendLies
import Derived.Deep.RegionLaw
import Derived.StillTailTactics
import Derived.IntWalk
import Derived.Maps.RangeWalk
import Derived.Maps.OwnSet
import Derived.Deep.LoopGhost
import Derived.Laws.AppendOwn
import Derived.Shelf.SlIterI.Nil
import Derived.Shelf.SortM.Plain
import Derived.Shelf.SortM.SortNone
import Derived.Ground.GgzProg
import Derived.Ground.SlgmProg
import Derived.Lib.AppendStr
import Derived.Shelf.Strings.Repeat
import Derived.Ground.NamesProg
import Derived.Lib.Agree
import Derived.Deep.MidRow
import Derived.Deep.CutBlock

set_option linter.unusedVariables false

/-
  Layer 10: a config (five integers, a word) and slices of acts (four integers, a word, a text, a list of bools) that come in as arguments of a law, opened.
-/
namespace Go.Proofs.YtefmbchebobceaaGreat
open Go.ChangeShapes Go.WideShapes Go.ChangeAt Go.RowKit
set_option linter.unusedVariables false

def CfgB6 (x0 x1 x2 x3 x4 : Int) (x5 : Nat) : Prop := I64 x0 ∧ I64 x1 ∧ I64 x2 ∧ I64 x3 ∧ I64 x4 ∧ x5 < 18446744073709551616
theorem open_cfg6 {H : Type} {enc : TypeId × Value → H} {P : Program} {w : World} {base : Nat} {held : Bool} {T : TypeId} {fs : Array Field} {f0 f1 f2 f3 f4 f5 : Field} {v : Value} {b0 : Nat} {d : DataW H} {p : List MemPlace}
    (he : P.underlying T = some (.struct fs)) (h0 : fs[0]? = some f0) (h1 : fs[1]? = some f1) (h2 : fs[2]? = some f2) (h3 : fs[3]? = some f3) (h4 : fs[4]? = some f4) (h5 : fs[5]? = some f5)
    (o0 : f0.offset = 0) (o1 : f1.offset = 1) (o2 : f2.offset = 2) (o3 : f3.offset = 3) (o4 : f4.offset = 4) (o5 : f5.offset = 5)
    (t0 : P.underlying f0.type = some (.int .i64)) (t1 : P.underlying f1.type = some (.int .i64)) (t2 : P.underlying f2.type = some (.int .i64)) (t3 : P.underlying f3.type = some (.int .i64)) (t4 : P.underlying f4.type = some (.int .i64)) (t5 : P.underlying f5.type = some (.int .u64))
    (c0 : P.cellsOf f0.type = 1) (c1 : P.cellsOf f1.type = 1) (c2 : P.cellsOf f2.type = 1) (c3 : P.cellsOf f3.type = 1) (c4 : P.cellsOf f4.type = 1) (c5 : P.cellsOf f5.type = 1) (cT : P.cellsOf T = 6)
    (hv : Value.okWide P w .any b0 T v) (h : DataW.Trod enc P w base (fun _ => true) held T v d p) : ∃ (x0 x1 x2 x3 x4 : Int) (x5 : Nat), v = .agg #[.int .i64 x0, .int .i64 x1, .int .i64 x2, .int .i64 x3, .int .i64 x4, .int .u64 (x5 : Int)] ∧ CfgB6 x0 x1 x2 x3 x4 x5 := by
  obtain ⟨cs, rfl, hsz⟩ := okWide_strP he hv
  obtain ⟨fuel, hf⟩ := h
  have hf' : DataW.trod enc P w base (fun _ => true) held fuel T cs.toList = some (d, p) := hf
  obtain ⟨ys, n, _, _, hl, hy, hi⟩ := DataW.trod_struct he hf'
  have hsf : 5 < fs.size := (Array.getElem?_eq_some_iff.1 h5).1
  have key : ∀ (i : Nat) (v : Value), (cs.toList.drop i).take 1 = [v] → cs.toList[i]? = some v := fun i v hd => by
    have : (List.take 1 (List.drop i cs.toList))[0]? = some v := by rw [hd]; rfl
    rw [List.getElem?_take_of_lt (by omega), List.getElem?_drop, Nat.add_zero] at this
    exact this
  have r0 := hi 0 f0 h0
  have r1 := hi 1 f1 h1
  have r2 := hi 2 f2 h2
  have r3 := hi 3 f3 h3
  have r4 := hi 4 f4 h4
  have r5 := hi 5 f5 h5
  rw [o0, c0, List.getElem?_eq_getElem (by omega)] at r0
  rw [o1, c1, List.getElem?_eq_getElem (by omega)] at r1
  rw [o2, c2, List.getElem?_eq_getElem (by omega)] at r2
  rw [o3, c3, List.getElem?_eq_getElem (by omega)] at r3
  rw [o4, c4, List.getElem?_eq_getElem (by omega)] at r4
  rw [o5, c5, List.getElem?_eq_getElem (by omega)] at r5
  obtain ⟨x0, e0, _, w0⟩ := DataW.trod_int t0 r0
  obtain ⟨x1, e1, _, w1⟩ := DataW.trod_int t1 r1
  obtain ⟨x2, e2, _, w2⟩ := DataW.trod_int t2 r2
  obtain ⟨x3, e3, _, w3⟩ := DataW.trod_int t3 r3
  obtain ⟨x4, e4, _, w4⟩ := DataW.trod_int t4 r4
  obtain ⟨x5, e5, _, w5⟩ := DataW.trod_int t5 r5
  obtain ⟨u, rfl, hu⟩ := natU64 w5
  refine ⟨x0, x1, x2, x3, x4, u, ?_, bounds_i64 w0, bounds_i64 w1, bounds_i64 w2, bounds_i64 w3, bounds_i64 w4, hu⟩
  have k0 := key 0 _ e0
  have k1 := key 1 _ e1
  have k2 := key 2 _ e2
  have k3 := key 3 _ e3
  have k4 := key 4 _ e4
  have k5 := key 5 _ e5
  have hlen : cs.toList.length = 6 := by simpa [cT] using hsz
  have : cs.toList = [.int .i64 x0, .int .i64 x1, .int .i64 x2, .int .i64 x3, .int .i64 x4, .int .u64 (u : Int)] := by
    apply List.ext_getElem?
    intro i
    match i with
    | 0 => rw [k0]; rfl
    | 1 => rw [k1]; rfl
    | 2 => rw [k2]; rfl
    | 3 => rw [k3]; rfl
    | 4 => rw [k4]; rfl
    | 5 => rw [k5]; rfl
    | n + 6 => rw [List.getElem?_eq_none (by omega), List.getElem?_eq_none (by simp)]
  congr 1
  exact Array.ext' this

structure ActM where
  d : Int
  z : Int
  l : Int
  k : Int
  v : Nat
  s : ByteArray
  ao : Option Addr
  kl : Nat
  kc : Nat
  kp : Nat → Bool
def ActMIs (w : World) (x : ActM) : Prop :=
  I64 x.d ∧ I64 x.z ∧ I64 x.l ∧ I64 x.k ∧ x.v < 18446744073709551616 ∧ x.s.size ≤ maxLen ∧
  (∀ j, j < x.kl → ∃ b o, x.ao = some ⟨b, o, none⟩ ∧ b < w.heap.size ∧ w.cell? ⟨b, o + j, none⟩ = some (.bool (x.kp j))) ∧ x.kl ≤ x.kc ∧ x.kc ≤ maxLen ∧ (x.ao = none → x.kc = 0)
def ActMAt (w : World) (b o : Nat) (x : ActM) : Prop :=
  w.cell? ⟨b, o, none⟩ = some (.int .i64 x.d) ∧ w.cell? ⟨b, o + 1, none⟩ = some (.int .i64 x.z) ∧ w.cell? ⟨b, o + 2, none⟩ = some (.int .i64 x.l) ∧ w.cell? ⟨b, o + 3, none⟩ = some (.int .i64 x.k) ∧ w.cell? ⟨b, o + 4, none⟩ = some (.int .u64 (x.v : Int)) ∧ w.cell? ⟨b, o + 5, none⟩ = some (.string x.s) ∧ w.cell? ⟨b, o + 6, none⟩ = some (.slice x.ao x.kl x.kc)
def SlM (w : World) (v : Value) : Prop :=
  (∃ ao cap, v = .slice ao 0 cap ∧ (ao = none → cap = 0) ∧ cap ≤ maxLen) ∨
  ∃ b off n cap, ∃ xs : Nat → ActM, v = .slice (some ⟨b, off, none⟩) n cap ∧ 0 < n ∧ n ≤ cap ∧ cap ≤ maxLen ∧ b < w.heap.size ∧ ∀ i, i < n → ActMIs w (xs i) ∧ ActMAt w b (off + i * 7) (xs i)
theorem open_actm {H : Type} {enc : TypeId × Value → H} {P : Program} {w : World} {base : Nat} {held : Bool} {e eb : TypeId} {fs : Array Field} {f0 f1 f2 f3 f4 f5 f6 : Field} {cs : List Value} {x : DataW H × List MemPlace} {fuel : Nat}
    (he : P.underlying e = some (.struct fs)) (h0 : fs[0]? = some f0) (h1 : fs[1]? = some f1) (h2 : fs[2]? = some f2) (h3 : fs[3]? = some f3) (h4 : fs[4]? = some f4) (h5 : fs[5]? = some f5) (h6 : fs[6]? = some f6)
    (o0 : f0.offset = 0) (o1 : f1.offset = 1) (o2 : f2.offset = 2) (o3 : f3.offset = 3) (o4 : f4.offset = 4) (o5 : f5.offset = 5) (o6 : f6.offset = 6)
    (t0 : P.underlying f0.type = some (.int .i64)) (t1 : P.underlying f1.type = some (.int .i64)) (t2 : P.underlying f2.type = some (.int .i64)) (t3 : P.underlying f3.type = some (.int .i64)) (t4 : P.underlying f4.type = some (.int .u64)) (t5 : P.underlying f5.type = some .string) (t6 : P.underlying f6.type = some (.slice eb)) (tb : P.underlying eb = some .bool)
    (c0 : P.cellsOf f0.type = 1) (c1 : P.cellsOf f1.type = 1) (c2 : P.cellsOf f2.type = 1) (c3 : P.cellsOf f3.type = 1) (c4 : P.cellsOf f4.type = 1) (c5 : P.cellsOf f5.type = 1) (c6 : P.cellsOf f6.type = 1) (cb : P.cellsOf eb = 1)
    (h : DataW.trod enc P w base (fun _ => true) held fuel e cs = some x) :
    ∃ y : ActM, ActMIs w y ∧ cs[0]? = some (.int .i64 y.d) ∧ cs[1]? = some (.int .i64 y.z) ∧ cs[2]? = some (.int .i64 y.l) ∧ cs[3]? = some (.int .i64 y.k) ∧ cs[4]? = some (.int .u64 (y.v : Int)) ∧ cs[5]? = some (.string y.s) ∧ cs[6]? = some (.slice y.ao y.kl y.kc) := by
  obtain ⟨ys, n, _, _, hl, hy, hi⟩ := DataW.trod_struct he h
  have hsz : 6 < fs.size := (Array.getElem?_eq_some_iff.1 h6).1
  have key : ∀ (i : Nat) (v : Value), (cs.drop i).take 1 = [v] → cs[i]? = some v := fun i v hd => by
    have : (List.take 1 (List.drop i cs))[0]? = some v := by rw [hd]; rfl
    rw [List.getElem?_take_of_lt (by omega), List.getElem?_drop, Nat.add_zero] at this
    exact this
  have r0 := hi 0 f0 h0
  have r1 := hi 1 f1 h1
  have r2 := hi 2 f2 h2
  have r3 := hi 3 f3 h3
  have r4 := hi 4 f4 h4
  have r5 := hi 5 f5 h5
  have r6 := hi 6 f6 h6
  rw [o0, c0, List.getElem?_eq_getElem (by omega)] at r0
  rw [o1, c1, List.getElem?_eq_getElem (by omega)] at r1
  rw [o2, c2, List.getElem?_eq_getElem (by omega)] at r2
  rw [o3, c3, List.getElem?_eq_getElem (by omega)] at r3
  rw [o4, c4, List.getElem?_eq_getElem (by omega)] at r4
  rw [o5, c5, List.getElem?_eq_getElem (by omega)] at r5
  rw [o6, c6, List.getElem?_eq_getElem (by omega)] at r6
  obtain ⟨d, hd, _, wd⟩ := DataW.trod_int t0 r0
  obtain ⟨z, hz, _, wz⟩ := DataW.trod_int t1 r1
  obtain ⟨l, hl2, _, wl⟩ := DataW.trod_int t2 r2
  obtain ⟨k, hk, _, wk⟩ := DataW.trod_int t3 r3
  obtain ⟨v, hv, _, wv⟩ := DataW.trod_int t4 r4
  obtain ⟨s, hs, _, ws⟩ := DataW.trod_string t5 r5
  obtain ⟨kv, kl, kp, hkv, ao, kc, rfl, q1, q2, q3, q4, q5, q6⟩ := open_bl_raw t6 tb cb r6
  obtain ⟨u, rfl, hu⟩ := natU64 wv
  exact ⟨⟨d, z, l, k, u, s, ao, kl, kc, kp⟩, ⟨bounds_i64 wd, bounds_i64 wz, bounds_i64 wl, bounds_i64 wk, hu, ws, q1, q4, q5, q6⟩, key 0 _ hd, key 1 _ hz, key 2 _ hl2, key 3 _ hk, key 4 _ hv, key 5 _ hs, key 6 _ hkv⟩

theorem open_actsm {H : Type} {enc : TypeId × Value → H} {P : Program} {w : World} {base : Nat} {held : Bool} {t e eb : TypeId} {fs : Array Field} {f0 f1 f2 f3 f4 f5 f6 : Field} {v : Value} {b0 : Nat} {d : DataW H} {p : List MemPlace}
    (ht : P.underlying t = some (.slice e)) (he : P.underlying e = some (.struct fs)) (h0 : fs[0]? = some f0) (h1 : fs[1]? = some f1) (h2 : fs[2]? = some f2) (h3 : fs[3]? = some f3) (h4 : fs[4]? = some f4) (h5 : fs[5]? = some f5) (h6 : fs[6]? = some f6)
    (o0 : f0.offset = 0) (o1 : f1.offset = 1) (o2 : f2.offset = 2) (o3 : f3.offset = 3) (o4 : f4.offset = 4) (o5 : f5.offset = 5) (o6 : f6.offset = 6)
    (t0 : P.underlying f0.type = some (.int .i64)) (t1 : P.underlying f1.type = some (.int .i64)) (t2 : P.underlying f2.type = some (.int .i64)) (t3 : P.underlying f3.type = some (.int .i64)) (t4 : P.underlying f4.type = some (.int .u64)) (t5 : P.underlying f5.type = some .string) (t6 : P.underlying f6.type = some (.slice eb)) (tb : P.underlying eb = some .bool)
    (c0 : P.cellsOf f0.type = 1) (c1 : P.cellsOf f1.type = 1) (c2 : P.cellsOf f2.type = 1) (c3 : P.cellsOf f3.type = 1) (c4 : P.cellsOf f4.type = 1) (c5 : P.cellsOf f5.type = 1) (c6 : P.cellsOf f6.type = 1) (cb : P.cellsOf eb = 1) (ce : P.cellsOf e = 7)
    (hv : Value.okWide P w .any b0 t v) (h : DataW.Trod enc P w base (fun _ => true) held t v d p) : SlM w v := by
  obtain ⟨a0, len, cap, rfl⟩ := okWide_slice ht hv
  obtain ⟨fuel, hf⟩ := h
  rcases DataW.trod_slice ht hf with ⟨hcs, _⟩ | ⟨a, len', cap', elems, rest, n, _, hcs, _, hb, hl, hm, hlen, hel, _, _⟩
  · simp [Value.cells] at hcs
    obtain ⟨rfl, rfl, rfl⟩ := hcs
    exact .inl ⟨none, 0, rfl, fun _ => rfl, Nat.zero_le _⟩
  · simp [Value.cells] at hcs
    obtain ⟨rfl, rfl, rfl⟩ := hcs
    by_cases hz : len = 0
    · subst hz
      exact .inl ⟨some a, cap, rfl, (fun e => by cases e), hm⟩
    · have each : ∀ i, i < len → ∃ y : ActM, ActMIs w y ∧ w.cell? ((a.add (i * 7)).add 0) = some (.int .i64 y.d) ∧ w.cell? ((a.add (i * 7)).add 1) = some (.int .i64 y.z) ∧ w.cell? ((a.add (i * 7)).add 2) = some (.int .i64 y.l) ∧ w.cell? ((a.add (i * 7)).add 3) = some (.int .i64 y.k) ∧ w.cell? ((a.add (i * 7)).add 4) = some (.int .u64 (y.v : Int)) ∧ w.cell? ((a.add (i * 7)).add 5) = some (.string y.s) ∧ w.cell? ((a.add (i * 7)).add 6) = some (.slice y.ao y.kl y.kc) := by
        intro i hi
        have q := hel i hi
        rw [ce, List.getElem?_eq_getElem (by omega), Option.bind_eq_some_iff] at q
        obtain ⟨cs', hc', hy⟩ := q
        obtain ⟨_, _, hc2⟩ := World.cells?_some hc'
        obtain ⟨y, hy1, e0, e1, e2, e3, e4, e5, e6⟩ := open_actm he h0 h1 h2 h3 h4 h5 h6 o0 o1 o2 o3 o4 o5 o6 t0 t1 t2 t3 t4 t5 t6 tb c0 c1 c2 c3 c4 c5 c6 cb hy
        exact ⟨y, hy1, (hc2 0 (by omega)).trans e0, (hc2 1 (by omega)).trans e1, (hc2 2 (by omega)).trans e2, (hc2 3 (by omega)).trans e3, (hc2 4 (by omega)).trans e4, (hc2 5 (by omega)).trans e5, (hc2 6 (by omega)).trans e6⟩
      obtain ⟨b, off, spot⟩ := a
      have hspot : spot = none := by
        obtain ⟨y, _, e0, _⟩ := each 0 (by omega)
        simpa [Addr.add] using World.cell?_spot e0
      subst hspot
      have hcl : ∀ i k, ((⟨b, off, none⟩ : Addr).add (i * 7)).add k = ⟨b, off + i * 7 + k, none⟩ := fun i k => by rw [add_plain, add_plain]
      have each2 : ∀ i, i < len → ∃ y : ActM, ActMIs w y ∧ ActMAt w b (off + i * 7) y := fun i hi => by
        obtain ⟨y, y1, e0, e1, e2, e3, e4, e5, e6⟩ := each i hi
        rw [hcl] at e0 e1 e2 e3 e4 e5 e6
        exact ⟨y, y1, e0, e1, e2, e3, e4, e5, e6⟩
      refine .inr ⟨b, off, len, cap, fun i => if hi : i < len then Classical.choose (each2 i hi) else ⟨0, 0, 0, 0, 0, ⟨#[]⟩, none, 0, 0, fun _ => false⟩, rfl, by omega, hl, hm, ?_, fun i hi => ?_⟩
      · obtain ⟨y, _, e0, _⟩ := each2 0 (by omega)
        exact block_lt_of_cell e0
      · dsimp only
        rw [dif_pos hi]
        exact Classical.choose_spec (each2 i hi)
end Go.Proofs.YtefmbchebobceaaGreat

/-
  HotAlike: the two pages of one config, and the law's own cells.
-/
namespace Go.Proofs.YtefmbchebobceaaGreat
open Go.RowKit
set_option linter.unusedVariables false

section
variable {w wr w2 : World} {cb rb sb : Nat} {C : CfgZ} {l1 l2 : Nat} {v1 v2 : Value}
end
section
variable {w wr w2 : World} {cb rb sb : Nat} {C : CfgZ} {l1 l2 : Nat} {X1 X2 : HtA} {A1 A2 : FlA} {a1 a2 : DevA} {Y1 Y2 Y3 : Nat → Nat → Nat → Nat} {m n m2 : Nat} {v1 v2 : Value}
end
theorem minIsA (P : Program) (L m k : Nat) (kI : Int) (hk : kI = k) (h : m = min L k) (ts : Array TypeId) (t : TypeId) (w : World) : (Builtin.min_ ts t #[.int .i64 (L : Int), .int .i64 kI]).run P w = .ok (.int .i64 (m : Int)) w := by
  subst hk
  rw [run_min_int2]
  have : (if ((k : Nat) : Int) < (L : Int) then ((k : Nat) : Int) else (L : Int)) = (m : Int) := by split <;> omega
  rw [this]
end Go.Proofs.YtefmbchebobceaaGreat
