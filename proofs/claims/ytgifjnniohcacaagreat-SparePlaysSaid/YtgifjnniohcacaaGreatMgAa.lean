/-
  MgAa: PmRi, LnM.
-/
import Derived.Test.YtgifjnniohcacaaGreatMgG
import Derived.Test.YtgifjnniohcacaaGreatMgT
import Derived.Test.YtgifjnniohcacaaGreatMgS

/-
  PmPlays: its acts, opened; the walk.
-/
namespace Go.Proofs.YtgifjnniohcacaaGreat
open Go.ChangeShapes Go.WideShapes Go.ChangeAt Go.RowKit
set_option linter.unusedVariables false

structure ActS where
  d : Int
  z : Int
  v : Nat
  ao : Option Addr
  kl : Nat
  kc : Nat
  kp : Nat → Bool
def ActIs (w : World) (x : ActS) : Prop :=
  (-9223372036854775808 ≤ x.d ∧ x.d ≤ 9223372036854775807) ∧ (-9223372036854775808 ≤ x.z ∧ x.z ≤ 9223372036854775807) ∧ x.v < 18446744073709551616 ∧
  (∀ j, j < x.kl → ∃ b o, x.ao = some ⟨b, o, none⟩ ∧ b < w.heap.size ∧ w.cell? ⟨b, o + j, none⟩ = some (.bool (x.kp j))) ∧ x.kl ≤ x.kc ∧ x.kc ≤ maxLen ∧ (x.ao = none → x.kc = 0)
/-- The cells of an act from offset o on. -/
def ActAt (w : World) (b o : Nat) (x : ActS) : Prop :=
  w.cell? ⟨b, o, none⟩ = some (.int .i64 x.d) ∧ w.cell? ⟨b, o + 1, none⟩ = some (.int .i64 x.z) ∧ w.cell? ⟨b, o + 2, none⟩ = some (.int .u64 (x.v : Int)) ∧ w.cell? ⟨b, o + 3, none⟩ = some (.slice x.ao x.kl x.kc)
def SlA (w : World) (v : Value) : Prop :=
  (∃ ao cap, v = .slice ao 0 cap ∧ (ao = none → cap = 0) ∧ cap ≤ maxLen) ∨
  ∃ b off n cap, ∃ xs : Nat → ActS, v = .slice (some ⟨b, off, none⟩) n cap ∧ 0 < n ∧ n ≤ cap ∧ cap ≤ maxLen ∧ b < w.heap.size ∧ ∀ i, i < n → ActIs w (xs i) ∧ ActAt w b (off + i * 4) (xs i)

theorem open_act {H : Type} {enc : TypeId × Value → H} {P : Program} {w : World} {base : Nat} {held : Bool} {e eb : TypeId} {fs : Array Field} {f0 f1 f2 f3 : Field} {cs : List Value} {x : DataW H × List MemPlace} {fuel : Nat}
    (he : P.underlying e = some (.struct fs)) (h0 : fs[0]? = some f0) (h1 : fs[1]? = some f1) (h2 : fs[2]? = some f2) (h3 : fs[3]? = some f3) (o0 : f0.offset = 0) (o1 : f1.offset = 1) (o2 : f2.offset = 2) (o3 : f3.offset = 3)
    (t0 : P.underlying f0.type = some (.int .i64)) (t1 : P.underlying f1.type = some (.int .i64)) (t2 : P.underlying f2.type = some (.int .u64)) (t3 : P.underlying f3.type = some (.slice eb)) (tb : P.underlying eb = some .bool)
    (c0 : P.cellsOf f0.type = 1) (c1 : P.cellsOf f1.type = 1) (c2 : P.cellsOf f2.type = 1) (c3 : P.cellsOf f3.type = 1) (cb : P.cellsOf eb = 1)
    (h : DataW.trod enc P w base (fun _ => true) held fuel e cs = some x) :
    ∃ y : ActS, ActIs w y ∧ cs[0]? = some (.int .i64 y.d) ∧ cs[1]? = some (.int .i64 y.z) ∧ cs[2]? = some (.int .u64 (y.v : Int)) ∧ cs[3]? = some (.slice y.ao y.kl y.kc) := by
  obtain ⟨ys, n, _, _, hl, hy, hi⟩ := DataW.trod_struct he h
  have hsz : 3 < fs.size := (Array.getElem?_eq_some_iff.1 h3).1
  have key : ∀ (i : Nat) (f : Field) (v : Value), fs[i]? = some f → f.offset = i → P.cellsOf f.type = 1 → (cs.drop i).take 1 = [v] → cs[i]? = some v := fun i f v _ _ _ hd => by
    have : (List.take 1 (List.drop i cs))[0]? = some v := by rw [hd]; rfl
    rw [List.getElem?_take_of_lt (by omega), List.getElem?_drop, Nat.add_zero] at this
    exact this
  have r0 := hi 0 f0 h0
  have r1 := hi 1 f1 h1
  have r2 := hi 2 f2 h2
  have r3 := hi 3 f3 h3
  rw [o0, c0, List.getElem?_eq_getElem (by omega)] at r0
  rw [o1, c1, List.getElem?_eq_getElem (by omega)] at r1
  rw [o2, c2, List.getElem?_eq_getElem (by omega)] at r2
  rw [o3, c3, List.getElem?_eq_getElem (by omega)] at r3
  obtain ⟨d, hd, _, wd⟩ := DataW.trod_int t0 r0
  obtain ⟨z, hz, _, wz⟩ := DataW.trod_int t1 r1
  obtain ⟨v, hv, _, wv⟩ := DataW.trod_int t2 r2
  obtain ⟨kv, kl, kp, hk, ao, kc, rfl, q1, q2, q3, q4, q5, q6⟩ := open_bl_raw t3 tb cb r3
  obtain ⟨u, rfl, hu⟩ := natU64 wv
  exact ⟨⟨d, z, u, ao, kl, kc, kp⟩, ⟨bounds_i64 wd, bounds_i64 wz, hu, q1, q4, q5, q6⟩, key 0 f0 _ h0 o0 c0 hd, key 1 f1 _ h1 o1 c1 hz, key 2 f2 _ h2 o2 c2 hv, key 3 f3 _ h3 o3 c3 hk⟩

theorem open_acts {H : Type} {enc : TypeId × Value → H} {P : Program} {w : World} {base : Nat} {held : Bool} {t e eb : TypeId} {fs : Array Field} {f0 f1 f2 f3 : Field} {v : Value} {b0 : Nat} {d : DataW H} {p : List MemPlace}
    (ht : P.underlying t = some (.slice e)) (he : P.underlying e = some (.struct fs)) (h0 : fs[0]? = some f0) (h1 : fs[1]? = some f1) (h2 : fs[2]? = some f2) (h3 : fs[3]? = some f3) (o0 : f0.offset = 0) (o1 : f1.offset = 1) (o2 : f2.offset = 2) (o3 : f3.offset = 3)
    (t0 : P.underlying f0.type = some (.int .i64)) (t1 : P.underlying f1.type = some (.int .i64)) (t2 : P.underlying f2.type = some (.int .u64)) (t3 : P.underlying f3.type = some (.slice eb)) (tb : P.underlying eb = some .bool)
    (c0 : P.cellsOf f0.type = 1) (c1 : P.cellsOf f1.type = 1) (c2 : P.cellsOf f2.type = 1) (c3 : P.cellsOf f3.type = 1) (cb : P.cellsOf eb = 1) (ce : P.cellsOf e = 4)
    (hv : Value.okWide P w .any b0 t v) (h : DataW.Trod enc P w base (fun _ => true) held t v d p) : SlA w v := by
  obtain ⟨a0, len, cap, rfl⟩ := okWide_slice ht hv
  obtain ⟨fuel, hf⟩ := h
  rcases DataW.trod_slice ht hf with ⟨hcs, _⟩ | ⟨a, len', cap', elems, rest, n, _, hcs, _, hb, hl, hm, hlen, hel, _, _⟩
  · simp [Value.cells] at hcs
    obtain ⟨rfl, rfl, rfl⟩ := hcs
    exact .inl ⟨none, 0, rfl, fun _ => rfl, Nat.zero_le _⟩
  · simp [Value.cells] at hcs
    obtain ⟨rfl, rfl, rfl⟩ := hcs
    by_cases hz : len = 0
    · subst hz
      exact .inl ⟨some a, cap, rfl, (fun e => by cases e), hm⟩
    · have each : ∀ i, i < len → ∃ y : ActS, ActIs w y ∧ w.cell? ((a.add (i * 4)).add 0) = some (.int .i64 y.d) ∧ w.cell? ((a.add (i * 4)).add 1) = some (.int .i64 y.z) ∧ w.cell? ((a.add (i * 4)).add 2) = some (.int .u64 (y.v : Int)) ∧ w.cell? ((a.add (i * 4)).add 3) = some (.slice y.ao y.kl y.kc) := by
        intro i hi
        have q := hel i hi
        rw [ce, List.getElem?_eq_getElem (by omega), Option.bind_eq_some_iff] at q
        obtain ⟨cs', hc', hy⟩ := q
        obtain ⟨_, _, hc2⟩ := World.cells?_some hc'
        obtain ⟨y, hy1, e0, e1, e2, e3⟩ := open_act he h0 h1 h2 h3 o0 o1 o2 o3 t0 t1 t2 t3 tb c0 c1 c2 c3 cb hy
        exact ⟨y, hy1, (hc2 0 (by omega)).trans e0, (hc2 1 (by omega)).trans e1, (hc2 2 (by omega)).trans e2, (hc2 3 (by omega)).trans e3⟩
      obtain ⟨b, off, spot⟩ := a
      have hspot : spot = none := by
        obtain ⟨y, _, e0, _⟩ := each 0 (by omega)
        simpa [Addr.add] using World.cell?_spot e0
      subst hspot
      have hcl : ∀ i k, ((⟨b, off, none⟩ : Addr).add (i * 4)).add k = ⟨b, off + i * 4 + k, none⟩ := fun i k => by rw [add_plain, add_plain]
      have each2 : ∀ i, i < len → ∃ y : ActS, ActIs w y ∧ ActAt w b (off + i * 4) y := fun i hi => by
        obtain ⟨y, y1, e0, e1, e2, e3⟩ := each i hi
        rw [hcl] at e0 e1 e2 e3
        exact ⟨y, y1, e0, e1, e2, e3⟩
      refine .inr ⟨b, off, len, cap, fun i => if hi : i < len then Classical.choose (each2 i hi) else ⟨0, 0, 0, none, 0, 0, fun _ => false⟩, rfl, by omega, hl, hm, ?_, fun i hi => ?_⟩
      · obtain ⟨y, _, e0, _⟩ := each2 0 (by omega)
        exact block_lt_of_cell e0
      · dsimp only
        rw [dif_pos hi]
        exact Classical.choose_spec (each2 i hi)

end Go.Proofs.YtgifjnniohcacaaGreat

/-
  LinePlays: its acts, opened; what its steps keep.
-/
namespace Go.Proofs.YtgifjnniohcacaaGreat
open Go.ChangeShapes Go.WideShapes Go.ChangeAt Go.RowKit
set_option linter.unusedVariables false

structure ActL where
  d : Int
  z : Int
  k : Int
  v : Nat
  s : ByteArray
  ao : Option Addr
  kl : Nat
  kc : Nat
  kp : Nat → Bool
def I64 (x : Int) : Prop := -9223372036854775808 ≤ x ∧ x ≤ 9223372036854775807
def ActLIs (w : World) (x : ActL) : Prop :=
  I64 x.d ∧ I64 x.z ∧ I64 x.k ∧ x.v < 18446744073709551616 ∧ x.s.size ≤ maxLen ∧
  (∀ j, j < x.kl → ∃ b o, x.ao = some ⟨b, o, none⟩ ∧ b < w.heap.size ∧ w.cell? ⟨b, o + j, none⟩ = some (.bool (x.kp j))) ∧ x.kl ≤ x.kc ∧ x.kc ≤ maxLen ∧ (x.ao = none → x.kc = 0)
def ActLAt (w : World) (b o : Nat) (x : ActL) : Prop :=
  w.cell? ⟨b, o, none⟩ = some (.int .i64 x.d) ∧ w.cell? ⟨b, o + 1, none⟩ = some (.int .i64 x.z) ∧ w.cell? ⟨b, o + 2, none⟩ = some (.int .i64 x.k) ∧ w.cell? ⟨b, o + 3, none⟩ = some (.int .u64 (x.v : Int)) ∧ w.cell? ⟨b, o + 4, none⟩ = some (.string x.s) ∧ w.cell? ⟨b, o + 5, none⟩ = some (.slice x.ao x.kl x.kc)
def SlL (w : World) (v : Value) : Prop :=
  (∃ ao cap, v = .slice ao 0 cap ∧ (ao = none → cap = 0) ∧ cap ≤ maxLen) ∨
  ∃ b off n cap, ∃ xs : Nat → ActL, v = .slice (some ⟨b, off, none⟩) n cap ∧ 0 < n ∧ n ≤ cap ∧ cap ≤ maxLen ∧ b < w.heap.size ∧ ∀ i, i < n → ActLIs w (xs i) ∧ ActLAt w b (off + i * 6) (xs i)

theorem open_actl {H : Type} {enc : TypeId × Value → H} {P : Program} {w : World} {base : Nat} {held : Bool} {e eb : TypeId} {fs : Array Field} {f0 f1 f2 f3 f4 f5 : Field} {cs : List Value} {x : DataW H × List MemPlace} {fuel : Nat}
    (he : P.underlying e = some (.struct fs)) (h0 : fs[0]? = some f0) (h1 : fs[1]? = some f1) (h2 : fs[2]? = some f2) (h3 : fs[3]? = some f3) (h4 : fs[4]? = some f4) (h5 : fs[5]? = some f5)
    (o0 : f0.offset = 0) (o1 : f1.offset = 1) (o2 : f2.offset = 2) (o3 : f3.offset = 3) (o4 : f4.offset = 4) (o5 : f5.offset = 5)
    (t0 : P.underlying f0.type = some (.int .i64)) (t1 : P.underlying f1.type = some (.int .i64)) (t2 : P.underlying f2.type = some (.int .i64)) (t3 : P.underlying f3.type = some (.int .u64)) (t4 : P.underlying f4.type = some .string) (t5 : P.underlying f5.type = some (.slice eb)) (tb : P.underlying eb = some .bool)
    (c0 : P.cellsOf f0.type = 1) (c1 : P.cellsOf f1.type = 1) (c2 : P.cellsOf f2.type = 1) (c3 : P.cellsOf f3.type = 1) (c4 : P.cellsOf f4.type = 1) (c5 : P.cellsOf f5.type = 1) (cb : P.cellsOf eb = 1)
    (h : DataW.trod enc P w base (fun _ => true) held fuel e cs = some x) :
    ∃ y : ActL, ActLIs w y ∧ cs[0]? = some (.int .i64 y.d) ∧ cs[1]? = some (.int .i64 y.z) ∧ cs[2]? = some (.int .i64 y.k) ∧ cs[3]? = some (.int .u64 (y.v : Int)) ∧ cs[4]? = some (.string y.s) ∧ cs[5]? = some (.slice y.ao y.kl y.kc) := by
  obtain ⟨ys, n, _, _, hl, hy, hi⟩ := DataW.trod_struct he h
  have hsz : 5 < fs.size := (Array.getElem?_eq_some_iff.1 h5).1
  have key : ∀ (i : Nat) (v : Value), (cs.drop i).take 1 = [v] → cs[i]? = some v := fun i v hd => by
    have : (List.take 1 (List.drop i cs))[0]? = some v := by rw [hd]; rfl
    rw [List.getElem?_take_of_lt (by omega), List.getElem?_drop, Nat.add_zero] at this
    exact this
  have r0 := hi 0 f0 h0
  have r1 := hi 1 f1 h1
  have r2 := hi 2 f2 h2
  have r3 := hi 3 f3 h3
  have r4 := hi 4 f4 h4
  have r5 := hi 5 f5 h5
  rw [o0, c0, List.getElem?_eq_getElem (by omega)] at r0
  rw [o1, c1, List.getElem?_eq_getElem (by omega)] at r1
  rw [o2, c2, List.getElem?_eq_getElem (by omega)] at r2
  rw [o3, c3, List.getElem?_eq_getElem (by omega)] at r3
  rw [o4, c4, List.getElem?_eq_getElem (by omega)] at r4
  rw [o5, c5, List.getElem?_eq_getElem (by omega)] at r5
  obtain ⟨d, hd, _, wd⟩ := DataW.trod_int t0 r0
  obtain ⟨z, hz, _, wz⟩ := DataW.trod_int t1 r1
  obtain ⟨k, hk, _, wk⟩ := DataW.trod_int t2 r2
  obtain ⟨v, hv, _, wv⟩ := DataW.trod_int t3 r3
  obtain ⟨s, hs, _, ws⟩ := DataW.trod_string t4 r4
  obtain ⟨kv, kl, kp, hkv, ao, kc, rfl, q1, q2, q3, q4, q5, q6⟩ := open_bl_raw t5 tb cb r5
  obtain ⟨u, rfl, hu⟩ := natU64 wv
  exact ⟨⟨d, z, k, u, s, ao, kl, kc, kp⟩, ⟨bounds_i64 wd, bounds_i64 wz, bounds_i64 wk, hu, ws, q1, q4, q5, q6⟩, key 0 _ hd, key 1 _ hz, key 2 _ hk, key 3 _ hv, key 4 _ hs, key 5 _ hkv⟩

theorem open_actsl {H : Type} {enc : TypeId × Value → H} {P : Program} {w : World} {base : Nat} {held : Bool} {t e eb : TypeId} {fs : Array Field} {f0 f1 f2 f3 f4 f5 : Field} {v : Value} {b0 : Nat} {d : DataW H} {p : List MemPlace}
    (ht : P.underlying t = some (.slice e)) (he : P.underlying e = some (.struct fs)) (h0 : fs[0]? = some f0) (h1 : fs[1]? = some f1) (h2 : fs[2]? = some f2) (h3 : fs[3]? = some f3) (h4 : fs[4]? = some f4) (h5 : fs[5]? = some f5)
    (o0 : f0.offset = 0) (o1 : f1.offset = 1) (o2 : f2.offset = 2) (o3 : f3.offset = 3) (o4 : f4.offset = 4) (o5 : f5.offset = 5)
    (t0 : P.underlying f0.type = some (.int .i64)) (t1 : P.underlying f1.type = some (.int .i64)) (t2 : P.underlying f2.type = some (.int .i64)) (t3 : P.underlying f3.type = some (.int .u64)) (t4 : P.underlying f4.type = some .string) (t5 : P.underlying f5.type = some (.slice eb)) (tb : P.underlying eb = some .bool)
    (c0 : P.cellsOf f0.type = 1) (c1 : P.cellsOf f1.type = 1) (c2 : P.cellsOf f2.type = 1) (c3 : P.cellsOf f3.type = 1) (c4 : P.cellsOf f4.type = 1) (c5 : P.cellsOf f5.type = 1) (cb : P.cellsOf eb = 1) (ce : P.cellsOf e = 6)
    (hv : Value.okWide P w .any b0 t v) (h : DataW.Trod enc P w base (fun _ => true) held t v d p) : SlL w v := by
  obtain ⟨a0, len, cap, rfl⟩ := okWide_slice ht hv
  obtain ⟨fuel, hf⟩ := h
  rcases DataW.trod_slice ht hf with ⟨hcs, _⟩ | ⟨a, len', cap', elems, rest, n, _, hcs, _, hb, hl, hm, hlen, hel, _, _⟩
  · simp [Value.cells] at hcs
    obtain ⟨rfl, rfl, rfl⟩ := hcs
    exact .inl ⟨none, 0, rfl, fun _ => rfl, Nat.zero_le _⟩
  · simp [Value.cells] at hcs
    obtain ⟨rfl, rfl, rfl⟩ := hcs
    by_cases hz : len = 0
    · subst hz
      exact .inl ⟨some a, cap, rfl, (fun e => by cases e), hm⟩
    · have each : ∀ i, i < len → ∃ y : ActL, ActLIs w y ∧ w.cell? ((a.add (i * 6)).add 0) = some (.int .i64 y.d) ∧ w.cell? ((a.add (i * 6)).add 1) = some (.int .i64 y.z) ∧ w.cell? ((a.add (i * 6)).add 2) = some (.int .i64 y.k) ∧ w.cell? ((a.add (i * 6)).add 3) = some (.int .u64 (y.v : Int)) ∧ w.cell? ((a.add (i * 6)).add 4) = some (.string y.s) ∧ w.cell? ((a.add (i * 6)).add 5) = some (.slice y.ao y.kl y.kc) := by
        intro i hi
        have q := hel i hi
        rw [ce, List.getElem?_eq_getElem (by omega), Option.bind_eq_some_iff] at q
        obtain ⟨cs', hc', hy⟩ := q
        obtain ⟨_, _, hc2⟩ := World.cells?_some hc'
        obtain ⟨y, hy1, e0, e1, e2, e3, e4, e5⟩ := open_actl he h0 h1 h2 h3 h4 h5 o0 o1 o2 o3 o4 o5 t0 t1 t2 t3 t4 t5 tb c0 c1 c2 c3 c4 c5 cb hy
        exact ⟨y, hy1, (hc2 0 (by omega)).trans e0, (hc2 1 (by omega)).trans e1, (hc2 2 (by omega)).trans e2, (hc2 3 (by omega)).trans e3, (hc2 4 (by omega)).trans e4, (hc2 5 (by omega)).trans e5⟩
      obtain ⟨b, off, spot⟩ := a
      have hspot : spot = none := by
        obtain ⟨y, _, e0, _⟩ := each 0 (by omega)
        simpa [Addr.add] using World.cell?_spot e0
      subst hspot
      have hcl : ∀ i k, ((⟨b, off, none⟩ : Addr).add (i * 6)).add k = ⟨b, off + i * 6 + k, none⟩ := fun i k => by rw [add_plain, add_plain]
      have each2 : ∀ i, i < len → ∃ y : ActL, ActLIs w y ∧ ActLAt w b (off + i * 6) y := fun i hi => by
        obtain ⟨y, y1, e0, e1, e2, e3, e4, e5⟩ := each i hi
        rw [hcl] at e0 e1 e2 e3 e4 e5
        exact ⟨y, y1, e0, e1, e2, e3, e4, e5⟩
      refine .inr ⟨b, off, len, cap, fun i => if hi : i < len then Classical.choose (each2 i hi) else ⟨0, 0, 0, 0, ⟨#[]⟩, none, 0, 0, fun _ => false⟩, rfl, by omega, hl, hm, ?_, fun i hi => ?_⟩
      · obtain ⟨y, _, e0, _⟩ := each2 0 (by omega)
        exact block_lt_of_cell e0
      · dsimp only
        rw [dif_pos hi]
        exact Classical.choose_spec (each2 i hi)

/-! ### What the steps keep -/
theorem finS_n (l : Nat) (D : DevS) : (finS l D).2.n = D.n := by
  unfold finS
  split
  · show (opD (opD D (isLine D l) (flushF l)) true fenceF).n = _
    rw [opD_n _ _ fenceF rfl, opD_n _ _ (flushF (l : Int)) rfl]
  · exact opD_n _ _ (flushF (l : Int)) rfl
theorem stos_n (l k : Nat) (f : Nat → Nat) : ∀ (m i : Nat) (D : DevS), (stos l k f m i D).2.n = D.n
  | 0, _, D => finS_n l D
  | m + 1, i, D => by
    unfold stos
    split
    · rw [stos_n l k f m (i + 1) _]
      exact opD_n _ _ (storeF _ _) rfl
    · exact opD_n _ _ (storeF _ _) rfl
theorem putE_n (D : DevS) (z : Int) (s : ByteArray) : (putE D z s).2.n = D.n := by
  unfold putE
  split
  · rfl
  · split
    · exact stos_n _ _ _ _ _ _
    · rfl
theorem pwE_n (D : DevS) (z k : Int) (v : Nat) : (pwE D z k v).2.n = D.n := by
  unfold pwE
  split
  · rfl
  · split
    · exact stos_n _ _ _ _ _ _
    · rfl
def medS (D : DevS) (l : Nat) : ByteArray := ⟨(medT D l).toArray⟩
theorem medS_size (D : DevS) (l : Nat) : (medS D l).size = 64 := by
  show (medT D l).toArray.size = 64
  rw [List.size_toArray]
  unfold medT
  rw [catL_length]
  rfl
theorem medS_word {D : DevS} (hm : ∀ i, D.med i < 18446744073709551616) (l k : Nat) (hk : k < 8) : wdL (medS D l).data.toList k = D.med (8 * l + k) := by
  show wdL (medT D l) k = _
  refine wdL_all _ (fun n hn => ?_) k _ ?_
  · simp only [List.mem_cons, List.not_mem_nil, or_false] at hn
    rcases hn with rfl | rfl | rfl | rfl | rfl | rfl | rfl | rfl <;> exact hm _
  · rcases (show k = 0 ∨ k = 1 ∨ k = 2 ∨ k = 3 ∨ k = 4 ∨ k = 5 ∨ k = 6 ∨ k = 7 by omega) with rfl | rfl | rfl | rfl | rfl | rfl | rfl | rfl <;> rfl
theorem took_med {D : DevS} (hm : ∀ i, D.med i < 18446744073709551616) {l : Nat} (hl : l < D.n) : tookB D (l : Int) (medS D l) = true :=
  took_of hl (medS_size D l) fun k hk => (medS_word hm l k hk).symm
theorem took_eq {D : DevS} (hm : ∀ i, D.med i < 18446744073709551616) {l : Nat} (hl : l < D.n) {F : ByteArray} (hF : F.size = 64) : tookB D (l : Int) F = ((medS D l).toList == F.toList) := by
  by_cases h : medS D l = F
  · rw [bs_beq_true h, ← h, took_med hm hl]
  · rw [bs_beq_false h]
    have : ∃ k, k < 8 ∧ D.med (8 * l + k) ≠ wdL F.data.toList k := by
      refine Classical.byContradiction fun hn => h (bytes_eq (medS_size D l) hF fun k hk => ?_)
      rw [medS_word hm l k hk]
      exact Classical.byContradiction fun hne => hn ⟨k, hk, hne⟩
    obtain ⟨k, hk, hne⟩ := this
    exact took_not hk hne

end Go.Proofs.YtgifjnniohcacaaGreat
