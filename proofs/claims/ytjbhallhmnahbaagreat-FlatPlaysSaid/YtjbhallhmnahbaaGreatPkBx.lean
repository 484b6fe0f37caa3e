/-
  PkBx: FlYa, FrameP.
-/
import Derived.Test.YtjbhallhmnahbaaGreatPkBt
import Derived.Test.YtjbhallhmnahbaaGreatPkAb
import Derived.Test.YtjbhallhmnahbaaGreatPkAv

set_option linter.unusedVariables false

/-
  FlatKeeps: a set of ints (a map to bool), a slice of texts, a line that breaks.
-/
namespace Go.Proofs.YtjbhallhmnahbaaGreat
open Go.RowKit
set_option linter.unusedVariables false

section
variable {w w' : World} {A : FlA} {a : DevA} {C : CfgZ} {F : Nat → Nat → Nat} {V : FlV} {N : Nat}
end
theorem smallC_pos (r l s p : Int) (key : Nat) (hk : key < 18446744073709551616) : 1 ≤ sizeC (smallC r l s p key) := by
  have h0 := mx_nonneg r
  have h1 := mx_nonneg l
  have h2 := mx_nonneg s
  have h3 := mx_nonneg p
  have e1 : (smallC r l s p key).r = 1 + mx r % 3 := rfl
  have e2 : (smallC r l s p key).l = 1 + mx l % 5 := rfl
  have e3 : (smallC r l s p key).s = mx s % 5 := rfl
  have e4 : (smallC r l s p key).psi = 1 + mx p % 4 := rfl
  have ok : okP (smallC r l s p key) := by unfold okP; omega
  obtain ⟨_, hs⟩ := regS_ok ok
  have hrs : 0 ≤ regS (smallC r l s p key) := by rw [hs]; omega
  have hm0 : 0 ≤ (smallC r l s p key).r * regS (smallC r l s p key) := Int.mul_nonneg (by omega) hrs
  rw [(smallC_ok r l s p key hk).1.size]
  omega
def wF (K : Nat → ByteArray) : Nat → Nat → Nat := fun l k => wdL (K l).data.toList k
structure Kq (w : World) (C : CfgZ) (a : DevA) (nb : Nat) (K : Nat → ByteArray) (A : FlA) (V : FlV) (N : Nat) (wr : World) : Prop where
  gr : Gr [] w wr
  fl : FL C A a false (wF K) V N wr
  kn : Holds wr nb (rowOf (fun l => .string (K l)) (cR C * cL C)) 9
  sz : ∀ l, l < cR C * cL C → (K l).size = 64
  lo : w.heap.size ≤ nb ∧ ∀ x ∈ A.all (cR C) ++ a.all, w.heap.size ≤ x ∧ x ≠ nb
section
variable {w wr w2 : World} {C : CfgZ} {a : DevA} {nb : Nat} {K : Nat → ByteArray} {A : FlA} {V V2 : FlV} {N N2 : Nat}
theorem Kq.next (h : Kq w C a nb K A V N wr) (g : Gr (A.all (cR C) ++ a.all) wr w2) (r : FL C A a false (wF K) V2 N2 w2) : Kq w C a nb K A V2 N2 w2 :=
  ⟨h.gr.nextN g fun x hx => .inr (h.lo.2 x hx).1, r, h.kn.gr g fun hx => (h.lo.2 _ hx).2 rfl, h.sz, h.lo⟩
theorem Kq.next0 (h : Kq w C a nb K A V N wr) (g : Gr [] wr w2) : Kq w C a nb K A V N w2 := h.next g.of0 (h.fl.gr0 g)
theorem Kq.cell (h : Kq w C a nb K A V N wr) {l : Nat} (hl : l < cR C * cL C) : wr.cell? ⟨nb, l, none⟩ = some (.string (K l)) := by
  have := h.kn.cell l
  rw [rowOf_get _ _ _ hl] at this
  exact this
end
end Go.Proofs.YtjbhallhmnahbaaGreat

/-
  A config (four integers, a word) that comes in as an argument of a law, opened.
-/
namespace Go.Proofs.YtjbhallhmnahbaaGreat
open Go.ChangeShapes Go.WideShapes Go.ChangeAt Go.RowKit
set_option linter.unusedVariables false

def CfgB (x0 x1 x2 x3 : Int) (x4 : Nat) : Prop := I64 x0 ∧ I64 x1 ∧ I64 x2 ∧ I64 x3 ∧ x4 < 18446744073709551616
theorem okWide_strP {P : Program} {w : World} {r : Reach} {base : Nat} {t : TypeId} {v : Value} {fs : Array Field} (ht : P.underlying t = some (.struct fs)) (h : Value.okWide P w r base t v) : ∃ cs, v = .agg cs ∧ cs.size = P.cellsOf t := by
  simp only [Value.okWide, ht] at h
  obtain ⟨cs, h1, h2, _⟩ := h
  exact ⟨cs, h1, h2⟩
theorem open_cfg {H : Type} {enc : TypeId × Value → H} {P : Program} {w : World} {base : Nat} {held : Bool} {T : TypeId} {fs : Array Field} {f0 f1 f2 f3 f4 : Field} {v : Value} {b0 : Nat} {d : DataW H} {p : List MemPlace}
    (he : P.underlying T = some (.struct fs)) (h0 : fs[0]? = some f0) (h1 : fs[1]? = some f1) (h2 : fs[2]? = some f2) (h3 : fs[3]? = some f3) (h4 : fs[4]? = some f4)
    (o0 : f0.offset = 0) (o1 : f1.offset = 1) (o2 : f2.offset = 2) (o3 : f3.offset = 3) (o4 : f4.offset = 4)
    (t0 : P.underlying f0.type = some (.int .i64)) (t1 : P.underlying f1.type = some (.int .i64)) (t2 : P.underlying f2.type = some (.int .i64)) (t3 : P.underlying f3.type = some (.int .i64)) (t4 : P.underlying f4.type = some (.int .u64))
    (c0 : P.cellsOf f0.type = 1) (c1 : P.cellsOf f1.type = 1) (c2 : P.cellsOf f2.type = 1) (c3 : P.cellsOf f3.type = 1) (c4 : P.cellsOf f4.type = 1) (cT : P.cellsOf T = 5)
    (hv : Value.okWide P w .any b0 T v) (h : DataW.Trod enc P w base (fun _ => true) held T v d p) : ∃ (x0 x1 x2 x3 : Int) (x4 : Nat), v = .agg #[.int .i64 x0, .int .i64 x1, .int .i64 x2, .int .i64 x3, .int .u64 (x4 : Int)] ∧ CfgB x0 x1 x2 x3 x4 := by
  obtain ⟨cs, rfl, hsz⟩ := okWide_strP he hv
  obtain ⟨fuel, hf⟩ := h
  have hf' : DataW.trod enc P w base (fun _ => true) held fuel T cs.toList = some (d, p) := hf
  obtain ⟨ys, n, _, _, hl, hy, hi⟩ := DataW.trod_struct he hf'
  have hsf : 4 < fs.size := (Array.getElem?_eq_some_iff.1 h4).1
  have key : ∀ (i : Nat) (v : Value), (cs.toList.drop i).take 1 = [v] → cs.toList[i]? = some v := fun i v hd => by
    have : (List.take 1 (List.drop i cs.toList))[0]? = some v := by rw [hd]; rfl
    rw [List.getElem?_take_of_lt (by omega), List.getElem?_drop, Nat.add_zero] at this
    exact this
  have r0 := hi 0 f0 h0
  have r1 := hi 1 f1 h1
  have r2 := hi 2 f2 h2
  have r3 := hi 3 f3 h3
  have r4 := hi 4 f4 h4
  rw [o0, c0, List.getElem?_eq_getElem (by omega)] at r0
  rw [o1, c1, List.getElem?_eq_getElem (by omega)] at r1
  rw [o2, c2, List.getElem?_eq_getElem (by omega)] at r2
  rw [o3, c3, List.getElem?_eq_getElem (by omega)] at r3
  rw [o4, c4, List.getElem?_eq_getElem (by omega)] at r4
  obtain ⟨x0, e0, _, w0⟩ := DataW.trod_int t0 r0
  obtain ⟨x1, e1, _, w1⟩ := DataW.trod_int t1 r1
  obtain ⟨x2, e2, _, w2⟩ := DataW.trod_int t2 r2
  obtain ⟨x3, e3, _, w3⟩ := DataW.trod_int t3 r3
  obtain ⟨x4, e4, _, w4⟩ := DataW.trod_int t4 r4
  obtain ⟨u, rfl, hu⟩ := natU64 w4
  refine ⟨x0, x1, x2, x3, u, ?_, bounds_i64 w0, bounds_i64 w1, bounds_i64 w2, bounds_i64 w3, hu⟩
  have k0 := key 0 _ e0
  have k1 := key 1 _ e1
  have k2 := key 2 _ e2
  have k3 := key 3 _ e3
  have k4 := key 4 _ e4
  have hlen : cs.toList.length = 5 := by simpa [cT] using hsz
  have : cs.toList = [.int .i64 x0, .int .i64 x1, .int .i64 x2, .int .i64 x3, .int .u64 (u : Int)] := by
    apply List.ext_getElem?
    intro i
    match i with
    | 0 => rw [k0]; rfl
    | 1 => rw [k1]; rfl
    | 2 => rw [k2]; rfl
    | 3 => rw [k3]; rfl
    | 4 => rw [k4]; rfl
    | n + 5 => rw [List.getElem?_eq_none (by omega), List.getElem?_eq_none (by simp)]
  congr 1
  exact Array.ext' this
end Go.Proofs.YtjbhallhmnahbaaGreat
