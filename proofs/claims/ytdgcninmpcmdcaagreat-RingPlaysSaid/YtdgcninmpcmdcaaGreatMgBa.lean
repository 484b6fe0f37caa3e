/-
  MgBa: FrameN, LawE, PmRa, PmRb, PmRc, PmRd, PmRe, PmRf, PmRg, PmRh, PmRi, LnK, LnL, LnM, SpL, SpV, SpW, SumP, Sum, Sum2, Sum3.
-/
import Derived.Test.YtdgcninmpcmdcaaGreatMgV
import Derived.Test.YtdgcninmpcmdcaaGreatBase
import Derived.Test.YtdgcninmpcmdcaaGreatCrc
import Derived.Lib.IndexBytes
import Derived.Test.YtdgcninmpcmdcaaGreatMgD
import Derived.StillTailTactics
import Derived.Test.YtdgcninmpcmdcaaGreatPmK
import Derived.Deep.QuietTactic
import Derived.BigQuiet
import Derived.Deep.RegionHeld3
import Derived.Test.YtdgcninmpcmdcaaGreatMgH
import Derived.Test.YtdgcninmpcmdcaaGreatMgW
import Derived.Test.YtdgcninmpcmdcaaGreatMgF
import Derived.Test.YtdgcninmpcmdcaaGreatSpU
import Derived.Test.YtdgcninmpcmdcaaGreatGapM
import Derived.Test.YtdgcninmpcmdcaaGreatReg
import Derived.Test.YtdgcninmpcmdcaaGreatRefA

/-
  Slices of acts (three integers, a word, a text, a list of bools) that come in as an argument of a law, opened.
-/
namespace Go.Proofs.YtdgcninmpcmdcaaGreat
open Go.ChangeShapes Go.WideShapes Go.ChangeAt Go.RowKit
set_option linter.unusedVariables false

structure ActL where
  d : Int
  z : Int
  k : Int
  v : Nat
  s : ByteArray
  ao : Option Addr
  kl : Nat
  kc : Nat
  kp : Nat → Bool
def I64 (x : Int) : Prop := -9223372036854775808 ≤ x ∧ x ≤ 9223372036854775807
def ActLIs (w : World) (x : ActL) : Prop :=
  I64 x.d ∧ I64 x.z ∧ I64 x.k ∧ x.v < 18446744073709551616 ∧ x.s.size ≤ maxLen ∧
  (∀ j, j < x.kl → ∃ b o, x.ao = some ⟨b, o, none⟩ ∧ b < w.heap.size ∧ w.cell? ⟨b, o + j, none⟩ = some (.bool (x.kp j))) ∧ x.kl ≤ x.kc ∧ x.kc ≤ maxLen ∧ (x.ao = none → x.kc = 0)
def ActLAt (w : World) (b o : Nat) (x : ActL) : Prop :=
  w.cell? ⟨b, o, none⟩ = some (.int .i64 x.d) ∧ w.cell? ⟨b, o + 1, none⟩ = some (.int .i64 x.z) ∧ w.cell? ⟨b, o + 2, none⟩ = some (.int .i64 x.k) ∧ w.cell? ⟨b, o + 3, none⟩ = some (.int .u64 (x.v : Int)) ∧ w.cell? ⟨b, o + 4, none⟩ = some (.string x.s) ∧ w.cell? ⟨b, o + 5, none⟩ = some (.slice x.ao x.kl x.kc)
def SlL (w : World) (v : Value) : Prop :=
  (∃ ao cap, v = .slice ao 0 cap ∧ (ao = none → cap = 0) ∧ cap ≤ maxLen) ∨
  ∃ b off n cap, ∃ xs : Nat → ActL, v = .slice (some ⟨b, off, none⟩) n cap ∧ 0 < n ∧ n ≤ cap ∧ cap ≤ maxLen ∧ b < w.heap.size ∧ ∀ i, i < n → ActLIs w (xs i) ∧ ActLAt w b (off + i * 6) (xs i)

theorem open_actl {H : Type} {enc : TypeId × Value → H} {P : Program} {w : World} {base : Nat} {held : Bool} {e eb : TypeId} {fs : Array Field} {f0 f1 f2 f3 f4 f5 : Field} {cs : List Value} {x : DataW H × List MemPlace} {fuel : Nat}
    (he : P.underlying e = some (.struct fs)) (h0 : fs[0]? = some f0) (h1 : fs[1]? = some f1) (h2 : fs[2]? = some f2) (h3 : fs[3]? = some f3) (h4 : fs[4]? = some f4) (h5 : fs[5]? = some f5)
    (o0 : f0.offset = 0) (o1 : f1.offset = 1) (o2 : f2.offset = 2) (o3 : f3.offset = 3) (o4 : f4.offset = 4) (o5 : f5.offset = 5)
    (t0 : P.underlying f0.type = some (.int .i64)) (t1 : P.underlying f1.type = some (.int .i64)) (t2 : P.underlying f2.type = some (.int .i64)) (t3 : P.underlying f3.type = some (.int .u64)) (t4 : P.underlying f4.type = some .string) (t5 : P.underlying f5.type = some (.slice eb)) (tb : P.underlying eb = some .bool)
    (c0 : P.cellsOf f0.type = 1) (c1 : P.cellsOf f1.type = 1) (c2 : P.cellsOf f2.type = 1) (c3 : P.cellsOf f3.type = 1) (c4 : P.cellsOf f4.type = 1) (c5 : P.cellsOf f5.type = 1) (cb : P.cellsOf eb = 1)
    (h : DataW.trod enc P w base (fun _ => true) held fuel e cs = some x) :
    ∃ y : ActL, ActLIs w y ∧ cs[0]? = some (.int .i64 y.d) ∧ cs[1]? = some (.int .i64 y.z) ∧ cs[2]? = some (.int .i64 y.k) ∧ cs[3]? = some (.int .u64 (y.v : Int)) ∧ cs[4]? = some (.string y.s) ∧ cs[5]? = some (.slice y.ao y.kl y.kc) := by
  obtain ⟨ys, n, _, _, hl, hy, hi⟩ := DataW.trod_struct he h
  have hsz : 5 < fs.size := (Array.getElem?_eq_some_iff.1 h5).1
  have key : ∀ (i : Nat) (v : Value), (cs.drop i).take 1 = [v] → cs[i]? = some v := fun i v hd => by
    have : (List.take 1 (List.drop i cs))[0]? = some v := by rw [hd]; rfl
    rw [List.getElem?_take_of_lt (by omega), List.getElem?_drop, Nat.add_zero] at this
    exact this
  have r0 := hi 0 f0 h0
  have r1 := hi 1 f1 h1
  have r2 := hi 2 f2 h2
  have r3 := hi 3 f3 h3
  have r4 := hi 4 f4 h4
  have r5 := hi 5 f5 h5
  rw [o0, c0, List.getElem?_eq_getElem (by omega)] at r0
  rw [o1, c1, List.getElem?_eq_getElem (by omega)] at r1
  rw [o2, c2, List.getElem?_eq_getElem (by omega)] at r2
  rw [o3, c3, List.getElem?_eq_getElem (by omega)] at r3
  rw [o4, c4, List.getElem?_eq_getElem (by omega)] at r4
  rw [o5, c5, List.getElem?_eq_getElem (by omega)] at r5
  obtain ⟨d, hd, _, wd⟩ := DataW.trod_int t0 r0
  obtain ⟨z, hz, _, wz⟩ := DataW.trod_int t1 r1
  obtain ⟨k, hk, _, wk⟩ := DataW.trod_int t2 r2
  obtain ⟨v, hv, _, wv⟩ := DataW.trod_int t3 r3
  obtain ⟨s, hs, _, ws⟩ := DataW.trod_string t4 r4
  obtain ⟨kv, kl, kp, hkv, ao, kc, rfl, q1, q2, q3, q4, q5, q6⟩ := open_bl_raw t5 tb cb r5
  obtain ⟨u, rfl, hu⟩ := natU64 wv
  exact ⟨⟨d, z, k, u, s, ao, kl, kc, kp⟩, ⟨bounds_i64 wd, bounds_i64 wz, bounds_i64 wk, hu, ws, q1, q4, q5, q6⟩, key 0 _ hd, key 1 _ hz, key 2 _ hk, key 3 _ hv, key 4 _ hs, key 5 _ hkv⟩

theorem open_actsl {H : Type} {enc : TypeId × Value → H} {P : Program} {w : World} {base : Nat} {held : Bool} {t e eb : TypeId} {fs : Array Field} {f0 f1 f2 f3 f4 f5 : Field} {v : Value} {b0 : Nat} {d : DataW H} {p : List MemPlace}
    (ht : P.underlying t = some (.slice e)) (he : P.underlying e = some (.struct fs)) (h0 : fs[0]? = some f0) (h1 : fs[1]? = some f1) (h2 : fs[2]? = some f2) (h3 : fs[3]? = some f3) (h4 : fs[4]? = some f4) (h5 : fs[5]? = some f5)
    (o0 : f0.offset = 0) (o1 : f1.offset = 1) (o2 : f2.offset = 2) (o3 : f3.offset = 3) (o4 : f4.offset = 4) (o5 : f5.offset = 5)
    (t0 : P.underlying f0.type = some (.int .i64)) (t1 : P.underlying f1.type = some (.int .i64)) (t2 : P.underlying f2.type = some (.int .i64)) (t3 : P.underlying f3.type = some (.int .u64)) (t4 : P.underlying f4.type = some .string) (t5 : P.underlying f5.type = some (.slice eb)) (tb : P.underlying eb = some .bool)
    (c0 : P.cellsOf f0.type = 1) (c1 : P.cellsOf f1.type = 1) (c2 : P.cellsOf f2.type = 1) (c3 : P.cellsOf f3.type = 1) (c4 : P.cellsOf f4.type = 1) (c5 : P.cellsOf f5.type = 1) (cb : P.cellsOf eb = 1) (ce : P.cellsOf e = 6)
    (hv : Value.okWide P w .any b0 t v) (h : DataW.Trod enc P w base (fun _ => true) held t v d p) : SlL w v := by
  obtain ⟨a0, len, cap, rfl⟩ := okWide_slice ht hv
  obtain ⟨fuel, hf⟩ := h
  rcases DataW.trod_slice ht hf with ⟨hcs, _⟩ | ⟨a, len', cap', elems, rest, n, _, hcs, _, hb, hl, hm, hlen, hel, _, _⟩
  · simp [Value.cells] at hcs
    obtain ⟨rfl, rfl, rfl⟩ := hcs
    exact .inl ⟨none, 0, rfl, fun _ => rfl, Nat.zero_le _⟩
  · simp [Value.cells] at hcs
    obtain ⟨rfl, rfl, rfl⟩ := hcs
    by_cases hz : len = 0
    · subst hz
      exact .inl ⟨some a, cap, rfl, (fun e => by cases e), hm⟩
    · have each : ∀ i, i < len → ∃ y : ActL, ActLIs w y ∧ w.cell? ((a.add (i * 6)).add 0) = some (.int .i64 y.d) ∧ w.cell? ((a.add (i * 6)).add 1) = some (.int .i64 y.z) ∧ w.cell? ((a.add (i * 6)).add 2) = some (.int .i64 y.k) ∧ w.cell? ((a.add (i * 6)).add 3) = some (.int .u64 (y.v : Int)) ∧ w.cell? ((a.add (i * 6)).add 4) = some (.string y.s) ∧ w.cell? ((a.add (i * 6)).add 5) = some (.slice y.ao y.kl y.kc) := by
        intro i hi
        have q := hel i hi
        rw [ce, List.getElem?_eq_getElem (by omega), Option.bind_eq_some_iff] at q
        obtain ⟨cs', hc', hy⟩ := q
        obtain ⟨_, _, hc2⟩ := World.cells?_some hc'
        obtain ⟨y, hy1, e0, e1, e2, e3, e4, e5⟩ := open_actl he h0 h1 h2 h3 h4 h5 o0 o1 o2 o3 o4 o5 t0 t1 t2 t3 t4 t5 tb c0 c1 c2 c3 c4 c5 cb hy
        exact ⟨y, hy1, (hc2 0 (by omega)).trans e0, (hc2 1 (by omega)).trans e1, (hc2 2 (by omega)).trans e2, (hc2 3 (by omega)).trans e3, (hc2 4 (by omega)).trans e4, (hc2 5 (by omega)).trans e5⟩
      obtain ⟨b, off, spot⟩ := a
      have hspot : spot = none := by
        obtain ⟨y, _, e0, _⟩ := each 0 (by omega)
        simpa [Addr.add] using World.cell?_spot e0
      subst hspot
      have hcl : ∀ i k, ((⟨b, off, none⟩ : Addr).add (i * 6)).add k = ⟨b, off + i * 6 + k, none⟩ := fun i k => by rw [add_plain, add_plain]
      have each2 : ∀ i, i < len → ∃ y : ActL, ActLIs w y ∧ ActLAt w b (off + i * 6) y := fun i hi => by
        obtain ⟨y, y1, e0, e1, e2, e3, e4, e5⟩ := each i hi
        rw [hcl] at e0 e1 e2 e3 e4 e5
        exact ⟨y, y1, e0, e1, e2, e3, e4, e5⟩
      refine .inr ⟨b, off, len, cap, fun i => if hi : i < len then Classical.choose (each2 i hi) else ⟨0, 0, 0, 0, ⟨#[]⟩, none, 0, 0, fun _ => false⟩, rfl, by omega, hl, hm, ?_, fun i hi => ?_⟩
      · obtain ⟨y, _, e0, _⟩ := each2 0 (by omega)
        exact block_lt_of_cell e0
      · dsimp only
        rw [dif_pos hi]
        exact Classical.choose_spec (each2 i hi)

end Go.Proofs.YtdgcninmpcmdcaaGreat

/-
  The walks of layer 2's statements: checks of mixed texts.
-/
namespace Go.Proofs.YtdgcninmpcmdcaaGreat
open Go.RowKit

def nums : List UInt8 := [49, 50, 51, 52, 53, 54, 55, 56, 57]
theorem guard77 : guardN (guardN 77) = guardN 77 := by decide +kernel
theorem low77 : low48 (guardN 77) = 77 := by decide +kernel
theorem guard0 : guardN 0 ≠ 0 := by decide +kernel
theorem nums16 : n16 (sum16 nums) = 10673 := by decide +kernel
theorem nums32 : n32 (sum32 nums) = 3808858755 := by decide +kernel

theorem xor_bytes (a b c : UInt8) : bits .xor .u8 (bits .xor .u8 (a.toNat : Int) (b.toNat : Int)) (c.toNat : Int) = ((a ^^^ b ^^^ c).toNat : Int) := by
  have ha := a.toNat_lt
  have hb := b.toNat_lt
  have hc := c.toNat_lt
  have hx : a.toNat ^^^ b.toNat < 2 ^ 8 := Nat.xor_lt_two_pow ha hb
  rw [u8_xor_nat _ _ ha hb, u8_xor_nat _ _ (by omega) hc]
  simp

theorem min4 (P : Program) (ts : Array TypeId) (t : TypeId) (x y z u : Int) (n : Int) (w : World) (h : n = min (min (min x y) z) u) :
    (Builtin.min_ ts t #[.int .i64 x, .int .i64 y, .int .i64 z, .int .i64 u]).run P w = .ok (.int .i64 n) w := by
  subst h
  simp only [Builtin.min_, Builtin.min2, List.foldlM, pure_bind]
  have e : ∀ p q : Int, (if q < p then q else p) = min p q := by intro p q; omega
  simp only [e]
  rfl

/-- Byte j of the mixed text. -/
theorem mix3_length : ∀ (l m n : List UInt8), l.length = m.length → m.length = n.length → (mix3 l m n).length = l.length
  | [], [], [], _, _ => rfl
  | a :: l, b :: m, c :: n, h, h' => by simp [mix3, mix3_length l m n (by simpa using h) (by simpa using h')]
  | [], _ :: _, _, h, _ => by simp at h
  | _ :: _, [], _, h, _ => by simp at h
  | [], [], _ :: _, _, h => by simp at h
  | _ :: _, _ :: _, [], _, h => by simp at h
theorem mix3_get : ∀ (l m n : List UInt8) (j : Nat) (h1 : j < l.length) (h2 : j < m.length) (h3 : j < n.length), (mix3 l m n)[j]? = some (l[j] ^^^ m[j] ^^^ n[j])
  | a :: l, b :: m, c :: n, 0, _, _, _ => rfl
  | a :: l, b :: m, c :: n, j + 1, h1, h2, h3 => by
    simp only [mix3, List.getElem?_cons_succ, List.getElem_cons_succ]
    exact mix3_get l m n j _ _ _
  | [], _, _, _, h, _, _ => by simp at h
  | _ :: _, [], _, _, _, h, _ => by simp at h
  | _ :: _, _ :: _, [], _, _, _, h => by simp at h

theorem xor16_walk (x y z : BitVec 16) : bits .xor .u16 (bits .xor .u16 (n16 x : Int) (n16 y : Int)) (n16 z : Int) = (n16 (x ^^^ y ^^^ z) : Int) := by
  rw [u16_xor_nat _ _ (n16_lt x) (n16_lt y)]
  unfold n16
  rw [← BitVec.toNat_xor, u16_xor_nat _ _ (BitVec.isLt _) z.isLt, ← BitVec.toNat_xor]
theorem xor32_walk (x y z : BitVec 32) : bits .xor .u32 (bits .xor .u32 (n32 x : Int) (n32 y : Int)) (n32 z : Int) = (n32 (x ^^^ y ^^^ z) : Int) := by
  rw [u32_xor_nat _ _ (n32_lt x) (n32_lt y)]
  unfold n32
  rw [← BitVec.toNat_xor, u32_xor_nat _ _ (BitVec.isLt _) z.isLt, ← BitVec.toNat_xor]
theorem own_below {w w' : World} {base : Nat} {e : TypeId} {size n : Nat} {v : Value} {xs : List Value} (h : w.ownsRow base e size v n xs) (hb : Below w.heap.size w w') : w'.ownsRow base e size v n xs := by
  refine ⟨h.1, ?_⟩
  rcases h.2 with hn | ⟨g, cap, cur, rfl, hg, hh, rest⟩
  · exact .inl hn
  · exact .inr ⟨g, cap, cur, rfl, hg, (hb.block g (Array.getElem?_eq_some_iff.1 hh).1).trans hh, rest⟩

/-- The first k bytes are mixed. -/
def DoneMix (a b c : ByteArray) (k : Nat) (xs : List Value) : Prop :=
  ∀ j (h0 : j < a.size) (h1 : j < b.size) (h2 : j < c.size), j < k → xs[j]? = some (byteV (a[j] ^^^ b[j] ^^^ c[j]))
theorem DoneMix.next {a b c : ByteArray} {k : Nat} {xs : List Value} (h : DoneMix a b c k xs) (h0 : k < a.size) (h1 : k < b.size) (h2 : k < c.size) (hk : k < xs.length) :
    DoneMix a b c (k + 1) (xs.set k (.int .u8 ((a[k] ^^^ b[k] ^^^ c[k]).toNat : Int))) := by
  intro j g0 g1 g2 hj
  by_cases e : j = k
  · subst e
    rw [List.getElem?_set_self hk]; rfl
  · rw [List.getElem?_set_ne (fun h => e h.symm)]
    exact h j g0 g1 g2 (by omega)
theorem DoneMix.all {a b c : ByteArray} {n : Nat} {xs : List Value} (h : DoneMix a b c n xs) (h0 : n ≤ a.size) (h1 : n ≤ b.size) (h2 : n ≤ c.size) (hx : xs.length = n) :
    xs = (mix3 (a.extract 0 n).data.toList (b.extract 0 n).data.toList (c.extract 0 n).data.toList).map byteV := by
  have l0 : (a.extract 0 n).data.toList.length = n := by rw [← Lib.size_eq, ByteArray.size_extract]; omega
  have l1 : (b.extract 0 n).data.toList.length = n := by rw [← Lib.size_eq, ByteArray.size_extract]; omega
  have l2 : (c.extract 0 n).data.toList.length = n := by rw [← Lib.size_eq, ByteArray.size_extract]; omega
  apply List.ext_getElem?
  intro j
  by_cases hj : j < n
  · rw [h j (by omega) (by omega) (by omega) hj, List.getElem?_map, mix3_get _ _ _ j (by omega) (by omega) (by omega)]
    have e : ∀ (s : ByteArray) (hs : n ≤ s.size) (hl : j < (s.extract 0 n).data.toList.length), (s.extract 0 n).data.toList[j] = s[j] := by
      intro s hs hl
      have : (s.extract 0 n).data.toList[j]? = s.data.toList[j]? := by
        rw [Lib.extract_data, List.drop_zero, List.getElem?_take_of_lt (by omega)]
      rw [List.getElem?_eq_getElem hl, List.getElem?_eq_getElem (by simpa using (show j < s.size by omega))] at this
      exact Option.some.inj this
    simp only [Option.map_some]
    rw [e a h0, e b h1, e c h2]
  · rw [List.getElem?_eq_none (by omega), List.getElem?_eq_none (by rw [List.length_map, mix3_length _ _ _ (by omega) (by omega)]; omega)]

end Go.Proofs.YtdgcninmpcmdcaaGreat

/-
  The reference of layer 3: its words in memory against the device's state.
-/
namespace Go.Proofs.YtdgcninmpcmdcaaGreat
open Go.RowKit

/-- The blocks of the reference. -/
structure RefA where
  rd : Nat
  rw : Nat
  rr : Nat
  rb : Nat
def RefA.all (r : RefA) : List Nat := [r.rd, r.rw, r.rr, r.rb]
structure WordS where
  m : Nat
  t : Bool
  v : Nat
  f : Bool
def wcell (ws : Nat → WordS) (k : Nat) : Value := if k % 4 = 0 then .int .u64 ((ws (k / 4)).m : Int) else if k % 4 = 1 then .bool (ws (k / 4)).t else if k % 4 = 2 then .int .u64 ((ws (k / 4)).v : Int) else .bool (ws (k / 4)).f
theorem wcell0 (ws : Nat → WordS) (i : Nat) : wcell ws (i * 4) = .int .u64 ((ws i).m : Int) := by unfold wcell; rw [if_pos (by omega), show i * 4 / 4 = i by omega]
theorem wcell1 (ws : Nat → WordS) (i : Nat) : wcell ws (i * 4 + 1) = .bool (ws i).t := by unfold wcell; rw [if_neg (by omega), if_pos (by omega), show (i * 4 + 1) / 4 = i by omega]
theorem wcell2 (ws : Nat → WordS) (i : Nat) : wcell ws (i * 4 + 2) = .int .u64 ((ws i).v : Int) := by unfold wcell; rw [if_neg (by omega), if_neg (by omega), if_pos (by omega), show (i * 4 + 2) / 4 = i by omega]
theorem wcell3 (ws : Nat → WordS) (i : Nat) : wcell ws (i * 4 + 3) = .bool (ws i).f := by unfold wcell; rw [if_neg (by omega), if_neg (by omega), if_neg (by omega), show (i * 4 + 3) / 4 = i by omega]
def updW (ws : Nat → WordS) (i : Nat) (x : WordS) : Nat → WordS := fun j => if j = i then x else ws j
theorem wcell_upd (ws : Nat → WordS) (i d : Nat) (x : WordS) (u : Value) (_ : d < 4) (hu : wcell (updW ws i x) (i * 4 + d) = u) (ho : ∀ e, e < 4 → e ≠ d → wcell (updW ws i x) (i * 4 + e) = wcell ws (i * 4 + e)) (k : Nat) : (if k = i * 4 + d then u else wcell ws k) = wcell (updW ws i x) k := by
  by_cases e : k = i * 4 + d
  · rw [if_pos e, e, hu]
  · rw [if_neg e]
    by_cases q : k / 4 = i
    · have hk : k = i * 4 + k % 4 := by omega
      rw [hk]
      exact (ho (k % 4) (by omega) (by omega)).symm
    · unfold wcell updW
      rw [if_neg q]
theorem updW_same (ws : Nat → WordS) (i : Nat) (x : WordS) : updW ws i x i = x := by unfold updW; rw [if_pos rfl]
theorem wcell_m (ws : Nat → WordS) (i m : Nat) (k : Nat) : (if k = i * 4 then Value.int .u64 (m : Int) else wcell ws k) = wcell (updW ws i { ws i with m := m }) k :=
  wcell_upd ws i 0 { ws i with m := m } _ (by omega) (by rw [Nat.add_zero, wcell0, updW_same]) (fun e h1 h2 => by
    rcases (show e = 1 ∨ e = 2 ∨ e = 3 by omega) with rfl | rfl | rfl
    · rw [wcell1, wcell1, updW_same]
    · rw [wcell2, wcell2, updW_same]
    · rw [wcell3, wcell3, updW_same]) k
theorem wcell_t (ws : Nat → WordS) (i : Nat) (t : Bool) (k : Nat) : (if k = i * 4 + 1 then Value.bool t else wcell ws k) = wcell (updW ws i { ws i with t := t }) k :=
  wcell_upd ws i 1 { ws i with t := t } _ (by omega) (by rw [wcell1, updW_same]) (fun e h1 h2 => by
    rcases (show e = 0 ∨ e = 2 ∨ e = 3 by omega) with rfl | rfl | rfl
    · rw [Nat.add_zero, wcell0, wcell0, updW_same]
    · rw [wcell2, wcell2, updW_same]
    · rw [wcell3, wcell3, updW_same]) k
theorem wcell_v (ws : Nat → WordS) (i v : Nat) (k : Nat) : (if k = i * 4 + 2 then Value.int .u64 (v : Int) else wcell ws k) = wcell (updW ws i { ws i with v := v }) k :=
  wcell_upd ws i 2 { ws i with v := v } _ (by omega) (by rw [wcell2, updW_same]) (fun e h1 h2 => by
    rcases (show e = 0 ∨ e = 1 ∨ e = 3 by omega) with rfl | rfl | rfl
    · rw [Nat.add_zero, wcell0, wcell0, updW_same]
    · rw [wcell1, wcell1, updW_same]
    · rw [wcell3, wcell3, updW_same]) k
theorem wcell_f (ws : Nat → WordS) (i : Nat) (f : Bool) (k : Nat) : (if k = i * 4 + 3 then Value.bool f else wcell ws k) = wcell (updW ws i { ws i with f := f }) k :=
  wcell_upd ws i 3 { ws i with f := f } _ (by omega) (by rw [wcell3, updW_same]) (fun e h1 h2 => by
    rcases (show e = 0 ∨ e = 1 ∨ e = 2 by omega) with rfl | rfl | rfl
    · rw [Nat.add_zero, wcell0, wcell0, updW_same]
    · rw [wcell1, wcell1, updW_same]
    · rw [wcell2, wcell2, updW_same]) k

/-- What the reference's head and rows hold. -/
structure RefC where
  n : Nat
  ws : Nat → WordS
  wear : Nat → Int
  bad : Nat → Bool
  fuse : Int
  off : Bool
  cnt : Nat
def headR (r : RefA) (R : RefC) : Array Value :=
  #[.slice (some ⟨r.rw, 0, none⟩) (8 * R.n) (8 * R.n), .slice (some ⟨r.rr, 0, none⟩) R.n R.n, .slice (some ⟨r.rb, 0, none⟩) R.n R.n, .int .i64 R.fuse, .bool R.off, .int .i64 (R.cnt : Int)]
structure RefRow (W : World) (r : RefA) (R : RefC) : Prop where
  head : Holds W r.rd (headR r R) 54
  words : Holds W r.rw (rowOf (wcell R.ws) (4 * (8 * R.n))) 113
  wear : Holds W r.rr (rowOf (fun i => .int .i64 (R.wear i)) R.n) 3
  bad : Holds W r.rb (rowOf (fun i => .bool (R.bad i)) R.n) 4
  nd : r.all.Nodup
  lo : 1 ≤ R.n
  hi : R.n ≤ 8192
section
variable {W W' : World} {r : RefA} {R : RefC}
theorem RefRow.gr {bs : List Nat} (h : RefRow W r R) (g : Gr bs W W') (hn : ∀ b ∈ r.all, b ∉ bs) : RefRow W' r R :=
  ⟨h.head.gr g (hn _ (by simp [RefA.all])), h.words.gr g (hn _ (by simp [RefA.all])), h.wear.gr g (hn _ (by simp [RefA.all])), h.bad.gr g (hn _ (by simp [RefA.all])), h.nd, h.lo, h.hi⟩
theorem RefRow.gr0 (h : RefRow W r R) (g : Gr [] W W') : RefRow W' r R := h.gr g (by simp)
theorem RefRow.lt (h : RefRow W r R) : ∀ b ∈ r.all, b < W.heap.size := by
  intro b hb
  simp only [RefA.all, List.mem_cons, List.not_mem_nil, or_false] at hb
  rcases hb with rfl | rfl | rfl | rfl
  · exact h.head.lt
  · exact h.words.lt
  · exact h.wear.lt
  · exact h.bad.lt
theorem RefRow.ne (h : RefRow W r R) : r.rd ≠ r.rw ∧ r.rd ≠ r.rr ∧ r.rd ≠ r.rb ∧ r.rw ≠ r.rr ∧ r.rw ≠ r.rb ∧ r.rr ≠ r.rb := by
  have := h.nd
  simp [RefA.all] at this
  exact ⟨this.1.1, this.1.2.1, this.1.2.2, this.2.1.1, this.2.1.2, this.2.2⟩
theorem RefRow.c0 (h : RefRow W r R) : W.cell? ⟨r.rd, 0, none⟩ = some (.slice (some ⟨r.rw, 0, none⟩) (8 * R.n) (8 * R.n)) := h.head.cell 0
theorem RefRow.c1 (h : RefRow W r R) : W.cell? ⟨r.rd, 1, none⟩ = some (.slice (some ⟨r.rr, 0, none⟩) R.n R.n) := h.head.cell 1
theorem RefRow.c2 (h : RefRow W r R) : W.cell? ⟨r.rd, 2, none⟩ = some (.slice (some ⟨r.rb, 0, none⟩) R.n R.n) := h.head.cell 2
theorem RefRow.c3 (h : RefRow W r R) : W.cell? ⟨r.rd, 3, none⟩ = some (.int .i64 R.fuse) := h.head.cell 3
theorem RefRow.c4 (h : RefRow W r R) : W.cell? ⟨r.rd, 4, none⟩ = some (.bool R.off) := h.head.cell 4
theorem RefRow.c5 (h : RefRow W r R) : W.cell? ⟨r.rd, 5, none⟩ = some (.int .i64 (R.cnt : Int)) := h.head.cell 5
theorem RefRow.fr (h : RefRow W r R) (i : Nat) : W.frozen? ⟨r.rd, i, none⟩ = false := h.head.frozen i
theorem RefRow.wm (h : RefRow W r R) {i : Nat} (hi : i < 8 * R.n) : W.cell? ⟨r.rw, i * 4, none⟩ = some (.int .u64 ((R.ws i).m : Int)) := by rw [h.words.cell, rowOf_get _ _ _ (by omega), wcell0]
theorem RefRow.wt (h : RefRow W r R) {i : Nat} (hi : i < 8 * R.n) : W.cell? ⟨r.rw, i * 4 + 1, none⟩ = some (.bool (R.ws i).t) := by rw [h.words.cell, rowOf_get _ _ _ (by omega), wcell1]
theorem RefRow.wv (h : RefRow W r R) {i : Nat} (hi : i < 8 * R.n) : W.cell? ⟨r.rw, i * 4 + 2, none⟩ = some (.int .u64 ((R.ws i).v : Int)) := by rw [h.words.cell, rowOf_get _ _ _ (by omega), wcell2]
theorem RefRow.wf (h : RefRow W r R) {i : Nat} (hi : i < 8 * R.n) : W.cell? ⟨r.rw, i * 4 + 3, none⟩ = some (.bool (R.ws i).f) := by rw [h.words.cell, rowOf_get _ _ _ (by omega), wcell3]
theorem RefRow.wz (h : RefRow W r R) (i : Nat) : W.frozen? ⟨r.rw, i, none⟩ = false := h.words.frozen i
theorem RefRow.wearAt (h : RefRow W r R) {i : Nat} (hi : i < R.n) : W.cell? ⟨r.rr, i, none⟩ = some (.int .i64 (R.wear i)) := by rw [h.wear.cell, rowOf_get _ _ _ hi]
theorem RefRow.badAt (h : RefRow W r R) {i : Nat} (hi : i < R.n) : W.cell? ⟨r.rb, i, none⟩ = some (.bool (R.bad i)) := by rw [h.bad.cell, rowOf_get _ _ _ hi]
theorem RefRow.setHead (h : RefRow W r R) {i : Nat} {u : Value} {R' : RefC} (e : (headR r R).setIfInBounds i u = headR r R') (hn : R'.n = R.n) (hw : R'.ws = R.ws) (hr : R'.wear = R.wear) (hb : R'.bad = R.bad) : RefRow (W.setCell ⟨r.rd, i, none⟩ u) r R' := by
  obtain ⟨n1, n2, n3, n4, n5, n6⟩ := h.ne
  have g := grSet W r.rd i u
  have hh := h.head.set i u
  rw [e] at hh
  refine ⟨hh, ?_, ?_, ?_, h.nd, by rw [hn]; exact h.lo, by rw [hn]; exact h.hi⟩
  · rw [hn, hw]; exact h.words.gr g (by simpa using n1.symm)
  · rw [hn, hr]; exact h.wear.gr g (by simpa using n2.symm)
  · rw [hn, hb]; exact h.bad.gr g (by simpa using n3.symm)
theorem RefRow.setFuse (h : RefRow W r R) (x : Int) : RefRow (W.setCell ⟨r.rd, 3, none⟩ (.int .i64 x)) r { R with fuse := x } := h.setHead rfl rfl rfl rfl rfl
theorem RefRow.setOff (h : RefRow W r R) (x : Bool) : RefRow (W.setCell ⟨r.rd, 4, none⟩ (.bool x)) r { R with off := x } := h.setHead rfl rfl rfl rfl rfl
theorem RefRow.setCnt (h : RefRow W r R) (x : Nat) : RefRow (W.setCell ⟨r.rd, 5, none⟩ (.int .i64 (x : Int))) r { R with cnt := x } := h.setHead rfl rfl rfl rfl rfl
theorem RefRow.setWord (h : RefRow W r R) {k : Nat} {u : Value} {ws' : Nat → WordS} (e : ∀ j, (if j = k then u else wcell R.ws j) = wcell ws' j) : RefRow (W.setCell ⟨r.rw, k, none⟩ u) r { R with ws := ws' } := by
  obtain ⟨n1, n2, n3, n4, n5, n6⟩ := h.ne
  have g := grSet W r.rw k u
  refine ⟨h.head.gr g (by simpa using n1), ?_, h.wear.gr g (by simpa using n4.symm), h.bad.gr g (by simpa using n5.symm), h.nd, h.lo, h.hi⟩
  have hh := h.words.set k u
  rw [rowOf_set, rowOf_congr (g' := wcell ws') (fun j _ => e j)] at hh
  exact hh
theorem RefRow.setM (h : RefRow W r R) (i m : Nat) : RefRow (W.setCell ⟨r.rw, i * 4, none⟩ (.int .u64 (m : Int))) r { R with ws := updW R.ws i { R.ws i with m := m } } := h.setWord (wcell_m R.ws i m)
theorem RefRow.setT (h : RefRow W r R) (i : Nat) (t : Bool) : RefRow (W.setCell ⟨r.rw, i * 4 + 1, none⟩ (.bool t)) r { R with ws := updW R.ws i { R.ws i with t := t } } := h.setWord (wcell_t R.ws i t)
theorem RefRow.setV (h : RefRow W r R) (i v : Nat) : RefRow (W.setCell ⟨r.rw, i * 4 + 2, none⟩ (.int .u64 (v : Int))) r { R with ws := updW R.ws i { R.ws i with v := v } } := h.setWord (wcell_v R.ws i v)
theorem RefRow.setF (h : RefRow W r R) (i : Nat) (f : Bool) : RefRow (W.setCell ⟨r.rw, i * 4 + 3, none⟩ (.bool f)) r { R with ws := updW R.ws i { R.ws i with f := f } } := h.setWord (wcell_f R.ws i f)
theorem RefRow.setWear (h : RefRow W r R) (i : Nat) (x : Int) : RefRow (W.setCell ⟨r.rr, i, none⟩ (.int .i64 x)) r { R with wear := fun j => if j = i then x else R.wear j } := by
  obtain ⟨n1, n2, n3, n4, n5, n6⟩ := h.ne
  have g := grSet W r.rr i (.int .i64 x)
  refine ⟨h.head.gr g (by simpa using n2), h.words.gr g (by simpa using n4), ?_, h.bad.gr g (by simpa using n6.symm), h.nd, h.lo, h.hi⟩
  have hh := h.wear.set i (.int .i64 x)
  rw [rowOf_set, rowOf_congr (g' := fun j => .int .i64 (if j = i then x else R.wear j)) (fun j _ => by split <;> rfl)] at hh
  exact hh
theorem RefRow.setBad (h : RefRow W r R) (i : Nat) (x : Bool) : RefRow (W.setCell ⟨r.rb, i, none⟩ (.bool x)) r { R with bad := fun j => if j = i then x else R.bad j } := by
  obtain ⟨n1, n2, n3, n4, n5, n6⟩ := h.ne
  have g := grSet W r.rb i (.bool x)
  refine ⟨h.head.gr g (by simpa using n3), h.words.gr g (by simpa using n5), h.wear.gr g (by simpa using n6), ?_, h.nd, h.lo, h.hi⟩
  have hh := h.bad.set i (.bool x)
  rw [rowOf_set, rowOf_congr (g' := fun j => .bool (if j = i then x else R.bad j)) (fun j _ => by split <;> rfl)] at hh
  exact hh
end

/-- The reference's words say what the device's state says. -/
structure Says (D : DevS) (R : RefC) : Prop where
  n : R.n = D.n
  wear : ∀ l, l < D.n → R.wear l = D.wear l
  bad : ∀ l, l < D.n → R.bad l = D.bad l
  fuse : R.fuse = D.fuse
  off : R.off = D.off
  cnt : R.cnt = D.cnt
  med : ∀ i, i < 8 * D.n → (R.ws i).m = D.med i
  buf : ∀ i : Nat, i < 8 * D.n → (D.buf (i : Int) = none ∧ (R.ws i).t = false) ∨ (D.buf (i : Int) = some ((R.ws i).v, (R.ws i).f) ∧ (R.ws i).t = true)
def RefIs (W : World) (r : RefA) (D : DevS) : Prop := ∃ R, RefRow W r R ∧ Says D R
theorem RefIs.gr {W W' : World} {r : RefA} {D : DevS} {bs : List Nat} (h : RefIs W r D) (g : Gr bs W W') (hn : ∀ b ∈ r.all, b ∉ bs) : RefIs W' r D := by
  obtain ⟨R, h1, h2⟩ := h
  exact ⟨R, h1.gr g hn, h2⟩
theorem RefIs.gr0 {W W' : World} {r : RefA} {D : DevS} (h : RefIs W r D) (g : Gr [] W W') : RefIs W' r D := h.gr g (by simp)
theorem RefIs.lt {W : World} {r : RefA} {D : DevS} (h : RefIs W r D) : ∀ b ∈ r.all, b < W.heap.size := by
  obtain ⟨R, h1, h2⟩ := h
  exact h1.lt

end Go.Proofs.YtdgcninmpcmdcaaGreat

/-
  The reference of layer 3: begin, Load, Store, Flush.
-/
namespace Go.Proofs.YtdgcninmpcmdcaaGreat
open Go.RowKit

def reachR (R : RefC) (t : Bool) : Int := if R.off then 6 else if t then 0 else 3
def begE (R : RefC) (t : Bool) : Int := if reachR R t ≠ 0 then reachR R t else if R.fuse = 1 then 6 else 0
def litR (R : RefC) : RefC := { R with fuse := if 1 < R.fuse then R.fuse - 1 else R.fuse, cnt := R.cnt + 1 }
def begR (R : RefC) (t : Bool) : RefC := if reachR R t ≠ 0 then R else if R.fuse = 1 then { R with fuse := 0, off := true } else litR R

set_option maxRecDepth 20000 in
set_option maxHeartbeats 1000000 in
theorem rbegin_any (r : RefA) (R : RefC) (z o : Int) (w : World) (h : RefRow w r R) (hc : R.cnt < 4611686018427387904) (hf : 0 ≤ R.fuse ∧ R.fuse ≤ 9223372036854775807) :
    Calls Tryz.prog 143 #[.pointer (some ⟨r.rd, 0, none⟩), .int .i64 z, .int .i64 o] w fun e w' => e = .returned (.int .i64 (begE R (decide (0 ≤ z ∧ z < o)))) ∧ RefRow w' r (begR R (decide (0 ≤ z ∧ z < o))) ∧ Gr r.all w w' := by
  have c3 := h.c3
  have c4 := h.c4
  have c5 := h.c5
  have f3 := h.fr 3
  have f4 := h.fr 4
  have f5 := h.fr 5
  have H := Lib.hid h
  have hall : ∀ b ∈ [r.rd], b ∈ r.all := fun b hb => by simp at hb; subst hb; simp [RefA.all]
  have HA := Lib.hid hall
  clear h hall
  cases ho : R.off with
  | true =>
    rw [ho] at c4
    have HE := Lib.hid (show begE R (decide (0 ≤ z ∧ z < o)) = 6 ∧ begR R (decide (0 ≤ z ∧ z < o)) = R by unfold begE begR reachR; rw [ho]; exact ⟨rfl, rfl⟩)
    clear ho
    go_enter Tryz.func143, Tryz.ntmps143
    go_wp2
    go_ret
    rw [HE.out.1, HE.out.2]
    exact ⟨rfl, H.out, Gr.refl _ _⟩
  | false =>
    rw [ho] at c4
    by_cases h0 : 0 ≤ z
    · have d0 : decide (z < 0) = false := by simp; omega
      by_cases h1 : z < o
      · have d1 : decide (o ≤ z) = false := by simp; omega
        have ht : decide (0 ≤ z ∧ z < o) = true := by simp; omega
        rw [ht]
        clear ht h0 h1
        by_cases hf1 : R.fuse = 1
        · have HE := Lib.hid (show begE R true = 6 ∧ begR R true = { R with fuse := 0, off := true } by
            have hr : reachR R true = 0 := by unfold reachR; rw [ho]; rfl
            constructor <;> simp [begE, begR, hr, hf1])
          rw [hf1] at c3
          clear ho hf1 hf hc
          have f4b : (w.setCell ⟨r.rd, 3, none⟩ (.int .i64 0)).frozen? ⟨r.rd, 4, none⟩ = false := (H.out.setFuse 0).fr 4
          go_enter Tryz.func143, Tryz.ntmps143
          go_wp2
          go_ret
          rw [HE.out.1, HE.out.2]
          exact ⟨rfl, (H.out.setFuse 0).setOff true, ((grSet _ _ _ _).trans (grSet _ _ _ _)).mono HA.out⟩
        · have HE := Lib.hid (show begE R true = 0 ∧ begR R true = litR R by
            have hr : reachR R true = 0 := by unfold reachR; rw [ho]; rfl
            constructor <;> simp [begE, begR, hr, hf1])
          by_cases hf2 : 1 < R.fuse
          · have HE := Lib.hid (show begE R true = 0 ∧ begR R true = { R with fuse := R.fuse - 1, cnt := R.cnt + 1 } by rw [HE.out.1, HE.out.2]; unfold litR; rw [if_pos hf2]; exact ⟨rfl, rfl⟩)
            have H2 := (H.out.setFuse (R.fuse - 1))
            have c5b : (w.setCell ⟨r.rd, 3, none⟩ (.int .i64 (R.fuse - 1))).cell? ⟨r.rd, 5, none⟩ = some (.int .i64 (R.cnt : Int)) := H2.c5
            have H3 := Lib.hid (H2.setCnt (R.cnt + 1))
            have g3 := Lib.hid ((grSet w r.rd 3 (.int .i64 (R.fuse - 1))).trans (grSet _ r.rd 5 (.int .i64 ((R.cnt + 1 : Nat) : Int))))
            have e1 : (R.fuse == 1) = false := by simpa using hf1
            have e2 : decide (1 < R.fuse) = true := by simpa using hf2
            clear H2
            generalize R.fuse = x at *
            generalize R.cnt = q at *
            clear hf1 ho
            go_enter Tryz.func143, Tryz.ntmps143
            go_wp2
            go_ret
            rw [HE.out.1, HE.out.2]
            exact ⟨rfl, H3.out, g3.out.mono HA.out⟩
          · have HE := Lib.hid (show begE R true = 0 ∧ begR R true = { R with cnt := R.cnt + 1 } by rw [HE.out.1, HE.out.2]; unfold litR; rw [if_neg hf2]; exact ⟨rfl, rfl⟩)
            have H3 := Lib.hid (H.out.setCnt (R.cnt + 1))
            have g3 := Lib.hid (grSet w r.rd 5 (.int .i64 ((R.cnt + 1 : Nat) : Int)))
            have e1 : (R.fuse == 1) = false := by simpa using hf1
            have e2 : decide (1 < R.fuse) = false := by simpa using hf2
            generalize R.fuse = x at *
            generalize R.cnt = q at *
            clear hf1 ho
            go_enter Tryz.func143, Tryz.ntmps143
            go_wp2
            go_ret
            rw [HE.out.1, HE.out.2]
            exact ⟨rfl, H3.out, g3.out.mono HA.out⟩
      · have d1 : decide (o ≤ z) = true := by simp; omega
        have ht : decide (0 ≤ z ∧ z < o) = false := by simp; omega
        rw [ht]
        have HE := Lib.hid (show begE R false = 3 ∧ begR R false = R by unfold begE begR reachR; rw [ho]; exact ⟨rfl, rfl⟩)
        clear ho ht h0 h1
        go_enter Tryz.func143, Tryz.ntmps143
        go_wp2
        go_ret
        rw [HE.out.1, HE.out.2]
        exact ⟨rfl, H.out, Gr.refl _ _⟩
    · have d0 : decide (z < 0) = true := by simp; omega
      have ht : decide (0 ≤ z ∧ z < o) = false := by simp; omega
      rw [ht]
      have HE := Lib.hid (show begE R false = 3 ∧ begR R false = R by unfold begE begR reachR; rw [ho]; exact ⟨rfl, rfl⟩)
      clear ho ht h0
      go_enter Tryz.func143, Tryz.ntmps143
      go_wp2
      go_ret
      rw [HE.out.1, HE.out.2]
      exact ⟨rfl, H.out, Gr.refl _ _⟩

/-! ### Load -/
def loadR (R : RefC) (z : Int) : Int × Int := if R.off then (0, 6) else if 0 ≤ z ∧ z < 8 * R.n then (if (R.ws z.toNat).t then ((R.ws z.toNat).v : Int) else ((R.ws z.toNat).m : Int), 0) else (0, 3)
set_option maxRecDepth 20000 in
set_option maxHeartbeats 1000000 in
theorem rload_any (r : RefA) (R : RefC) (z : Int) (w : World) (h : RefRow w r R) :
    Calls Tryz.prog 103 #[.pointer (some ⟨r.rd, 0, none⟩), .int .i64 z] w fun e w' => e = .returned (.tuple #[.int .u64 (loadR R z).1, .int .i64 (loadR R z).2]) ∧ w = w' := by
  have c0 := h.c0
  have c4 := h.c4
  have hn := h.hi
  cases ho : R.off with
  | true =>
    have HE := Lib.hid (show loadR R z = (0, 6) by unfold loadR; rw [ho]; rfl)
    rw [ho] at c4
    clear ho h
    go_enter Tryz.func103, Tryz.ntmps103
    go_wp2
    go_ret2
    rw [HE.out]
    exact ⟨rfl, rfl⟩
  | false =>
    rw [ho] at c4
    by_cases h0 : 0 ≤ z
    · have d0 : decide (z < 0) = false := by simp; omega
      by_cases h1 : z < 8 * R.n
      · obtain ⟨i, rfl⟩ := Int.eq_ofNat_of_zero_le h0
        have hi : i < 8 * R.n := by omega
        have d1 : decide (8 * (R.n : Int) ≤ (i : Int)) = false := by simp; omega
        have HE := Lib.hid (show loadR R (i : Int) = (if (R.ws i).t then ((R.ws i).v : Int) else ((R.ws i).m : Int), 0) by unfold loadR; rw [ho, if_neg (by simp), if_pos (by omega), Int.toNat_natCast])
        have m0 := h.wm hi
        have m1 := h.wt hi
        have m2 := h.wv hi
        clear h ho
        generalize R.n = n at *
        cases ht : (R.ws i).t with
        | true =>
          rw [ht] at m1 HE
          go_enter Tryz.func103, Tryz.ntmps103
          go_wp2
          go_ret2
          rw [HE.out]
          exact ⟨rfl, rfl⟩
        | false =>
          rw [ht] at m1 HE
          go_enter Tryz.func103, Tryz.ntmps103
          go_wp2
          go_ret2
          rw [HE.out]
          exact ⟨rfl, rfl⟩
      · have d1 : decide (8 * (R.n : Int) ≤ z) = true := by simp; omega
        have HE := Lib.hid (show loadR R z = (0, 3) by unfold loadR; rw [ho, if_neg (by simp), if_neg (by omega)])
        clear h ho
        generalize R.n = n at *
        go_enter Tryz.func103, Tryz.ntmps103
        go_wp2
        go_ret2
        rw [HE.out]
        exact ⟨rfl, rfl⟩
    · have d0 : decide (z < 0) = true := by simp; omega
      have HE := Lib.hid (show loadR R z = (0, 3) by unfold loadR; rw [ho, if_neg (by simp), if_neg (by omega)])
      clear h ho
      generalize R.n = n at *
      go_enter Tryz.func103, Tryz.ntmps103
      go_wp2
      go_ret2
      rw [HE.out]
      exact ⟨rfl, rfl⟩

/-! ### Store -/
theorem begE_zero {R : RefC} {t : Bool} (h : begE R t = 0) : t = true ∧ begR R t = litR R := by
  unfold begE at h
  by_cases hr : reachR R t = 0
  · rw [if_neg (by simp [hr])] at h
    by_cases hf : R.fuse = 1
    · rw [if_pos hf] at h; cases h
    · refine ⟨?_, by unfold begR; rw [if_neg (by simp [hr]), if_neg hf]⟩
      unfold reachR at hr
      cases ho : R.off <;> cases t <;> simp [ho] at hr ⊢
  · rw [if_pos hr] at h; exact absurd h hr
def storeW (ws : Nat → WordS) (i v : Nat) : Nat → WordS := updW ws i { m := (ws i).m, t := true, v := v, f := false }
def storeR (R : RefC) (z : Int) (v : Nat) : RefC := if begE R (decide (0 ≤ z ∧ z < 8 * R.n)) = 0 then { litR R with ws := storeW R.ws z.toNat v } else begR R (decide (0 ≤ z ∧ z < 8 * R.n))
theorem updW_twice (ws : Nat → WordS) (i : Nat) (x y : WordS) : updW (updW ws i x) i y = updW ws i y := by
  funext j
  unfold updW
  split <;> rfl

set_option maxRecDepth 20000 in
set_option maxHeartbeats 1000000 in
theorem rstore_any (r : RefA) (R : RefC) (z : Int) (v : Nat) (w : World) (h : RefRow w r R) (hc : R.cnt < 4611686018427387904) (hf : 0 ≤ R.fuse ∧ R.fuse ≤ 9223372036854775807) :
    Calls Tryz.prog 127 #[.pointer (some ⟨r.rd, 0, none⟩), .int .i64 z, .int .u64 v] w fun e w' => e = .returned (.int .i64 (begE R (decide (0 ≤ z ∧ z < 8 * R.n)))) ∧ RefRow w' r (storeR R z v) ∧ Gr r.all w w' := by
  have c0 := h.c0
  have hn := h.hi
  have HB := Lib.hid (rbegin_any r R z (8 * R.n) w h hc hf)
  obtain ⟨t, ht⟩ : ∃ t, decide (0 ≤ z ∧ z < 8 * (R.n : Int)) = t := ⟨_, rfl⟩
  have HT := Lib.hid ht
  unfold storeR
  rw [ht] at HB ⊢
  clear ht
  have H := Lib.hid h
  obtain ⟨n, hn2⟩ : ∃ n, n = R.n := ⟨_, rfl⟩
  rw [← hn2] at c0 HB hn HT
  have HN2 := Lib.hid hn2
  clear h hn2 hc hf
  go_enter Tryz.func127, Tryz.ntmps127
  go_wp2_with fail
  refine HB.out.mono ?_
  rintro e w1 ⟨rfl, R1, g1⟩
  by_cases h0 : begE R t = 0
  · have HZ0 := Lib.hid h0
    rw [h0]
    obtain ⟨h1, h2⟩ := begE_zero h0
    subst h1
    rw [h2] at R1
    have hz : 0 ≤ z ∧ z < 8 * (n : Int) := by have := HT.out; simpa using this
    obtain ⟨i, rfl⟩ := Int.eq_ofNat_of_zero_le hz.1
    have hi : i < 8 * n := by omega
    have hnn : (litR R).n = n := HN2.out.symm
    have k0 := R1.c0
    rw [hnn] at k0
    have k1 := R1.setT i true
    have k2 := k1.setV i v
    have k3 := k2.setF i false
    have f1 := R1.wz (i * 4 + 1)
    have f2 := R1.wz (i * 4 + 2)
    have f3 := R1.wz (i * 4 + 3)
    have m1 := R1.wt (i := i) (by rw [hnn]; exact hi)
    have m2 := R1.wv (i := i) (by rw [hnn]; exact hi)
    have m3 := R1.wf (i := i) (by rw [hnn]; exact hi)
    have a0 := k1.c0
    have a1 := k2.c0
    rw [show ({ litR R with ws := updW (litR R).ws i { (litR R).ws i with t := true } } : RefC).n = n from hnn] at a0
    rw [show ({ ({ litR R with ws := updW (litR R).ws i { (litR R).ws i with t := true } } : RefC) with ws := updW (updW (litR R).ws i { (litR R).ws i with t := true }) i { (updW (litR R).ws i { (litR R).ws i with t := true }) i with v := v } } : RefC).n = n from hnn] at a1
    have HD := Lib.hid (And.intro k3 (g1.trans ((((grSet w1 r.rw (i * 4 + 1) (.bool true)).trans (grSet _ r.rw (i * 4 + 2) (.int .u64 (v : Int)))).trans (grSet _ r.rw (i * 4 + 3) (.bool false))).mono (cs := r.all) (fun b hb => by simp at hb; subst hb; simp [RefA.all]))))
    clear k1 k2 k3 R1 g1 h0 h2
    go_wp2
    go_ret
    refine ⟨by first | rfl | rw [HZ0.out], ?_, HD.out.2⟩
    have q := HD.out.1
    rw [updW_same, updW_twice, updW_same, updW_twice] at q
    first
      | exact q
      | (rw [if_pos HZ0.out, Int.toNat_natCast]; exact q)
      | (rw [Int.toNat_natCast]; exact q)
      | (have hn3 := HN2.out; subst hn3; exact q)
  · have HZ0 := Lib.hid h0
    have e1 : (begE R t == 0) = false := by simpa using h0
    have HD := Lib.hid (And.intro R1 g1)
    clear R1 g1 h0
    go_wp2
    go_ret
    exact ⟨rfl, by first | exact HD.out.1 | (rw [if_neg HZ0.out]; exact HD.out.1), HD.out.2⟩

end Go.Proofs.YtdgcninmpcmdcaaGreat

/-
  The reference of layer 3: Flush, last, Fence.
-/
namespace Go.Proofs.YtdgcninmpcmdcaaGreat
open Go.RowKit

/-! ### Flush: the words of line l below j done -/
def flW (ws : Nat → WordS) (l j : Nat) : Nat → WordS := fun i => if 8 * l ≤ i ∧ i < 8 * l + j then { m := (ws i).m, t := (ws i).t, v := (ws i).v, f := (ws i).t } else ws i
theorem flW_zero (ws : Nat → WordS) (l : Nat) : flW ws l 0 = ws := by funext i; unfold flW; rw [if_neg (by omega)]
theorem flW_at (ws : Nat → WordS) (l j : Nat) : flW ws l j (8 * l + j) = ws (8 * l + j) := by unfold flW; rw [if_neg (by omega)]
theorem flW_succ (ws : Nat → WordS) (l j : Nat) (q : Nat) (hq : q = 8 * l + j) : updW (flW ws l j) q { flW ws l j q with f := (ws q).t } = flW ws l (j + 1) := by
  subst hq
  funext i
  rw [flW_at]
  unfold updW flW
  by_cases e : i = 8 * l + j
  · subst e; rw [if_pos rfl, if_pos (by omega)]
  · rw [if_neg e]
    by_cases q : 8 * l ≤ i ∧ i < 8 * l + j
    · rw [if_pos q, if_pos (by omega)]
    · rw [if_neg q, if_neg (by omega)]
def flushR (R : RefC) (z : Int) : RefC := if begE R (decide (0 ≤ z ∧ z < R.n)) = 0 then { litR R with ws := flW R.ws z.toNat 8 } else begR R (decide (0 ≤ z ∧ z < R.n))

set_option maxRecDepth 20000 in
set_option maxHeartbeats 2000000 in
theorem rflush_any (r : RefA) (R : RefC) (z : Int) (w : World) (h : RefRow w r R) (hc : R.cnt < 4611686018427387904) (hf : 0 ≤ R.fuse ∧ R.fuse ≤ 9223372036854775807) :
    Calls Tryz.prog 144 #[.pointer (some ⟨r.rd, 0, none⟩), .int .i64 z] w fun e w' => e = .returned (.int .i64 (begE R (decide (0 ≤ z ∧ z < R.n)))) ∧ RefRow w' r (flushR R z) ∧ Gr r.all w w' := by
  have c1 := h.c1
  have hn := h.hi
  have HB := Lib.hid (rbegin_any r R z R.n w h hc hf)
  obtain ⟨t, ht⟩ : ∃ t, decide (0 ≤ z ∧ z < (R.n : Int)) = t := ⟨_, rfl⟩
  have HT := Lib.hid ht
  unfold flushR
  rw [ht] at HB ⊢
  clear ht
  have H := Lib.hid h
  obtain ⟨n, hn2⟩ : ∃ n, n = R.n := ⟨_, rfl⟩
  rw [← hn2] at c1 HB hn HT
  have HN2 := Lib.hid hn2
  clear h hn2 hc hf
  go_enter Tryz.func144, Tryz.ntmps144
  go_wp2_with fail
  refine HB.out.mono ?_
  rintro e w1 ⟨rfl, R1, g1⟩
  by_cases h0 : begE R t = 0
  · have HZ0 := Lib.hid h0
    rw [h0]
    obtain ⟨h1, h2⟩ := begE_zero h0
    subst h1
    rw [h2] at R1
    have hz : 0 ≤ z ∧ z < (n : Int) := by have := HT.out; simpa using this
    obtain ⟨l, rfl⟩ := Int.eq_ofNat_of_zero_le hz.1
    have hl : l < n := by omega
    have R1 : RefRow w1 r { litR R with ws := flW R.ws l 0 } := by rw [flW_zero]; exact R1
    have HD := Lib.hid (And.intro R1 g1)
    clear R1 g1 h0 h2 hz c1
    go_wp2_with fail
    go_loopw [6] (fun i wr => ∃ j : Nat, j ≤ 8 ∧ i = .int .i64 (j : Int) ∧ RefRow wr r { litR R with ws := flW R.ws l j } ∧ Gr r.all w wr) (fun i _ => 8 - (intOf i).toNat)
    case atStart => exact ⟨0, by omega, rfl, HD.out.1, HD.out.2⟩
    case round =>
      clear HD
      obtain ⟨j, hj, rfl, R2, g2⟩ := hrel
      by_cases hlt : j < 8
      · have hd : decide ((j : Int) < 8) = true := by simp; omega
        obtain ⟨q, hq⟩ : ∃ q : Nat, q = 8 * l + j := ⟨_, rfl⟩
        have hqz : 8 * (l : Int) + (j : Int) = (q : Int) := by omega
        have hqn : q < 8 * n := by omega
        have hw1 : IntKind.i64.wrap (8 * (l : Int)) = 8 * (l : Int) := IntWalk.i64_in _ (by omega)
        have hw3 : IntKind.i64.wrap (q : Int) = (q : Int) := IntWalk.i64_in _ (by omega)
        have hw2 : IntKind.i64.wrap (8 * (l : Int) + (j : Int)) = (q : Int) := (IntWalk.i64_in _ (by omega)).trans hqz
        have hqb : (q : Int) < 8 * (n : Int) := by omega
        have hq0 : (0 : Int) ≤ (q : Int) := by omega
        have hnn : ({ litR R with ws := flW R.ws l j } : RefC).n = n := HN2.out.symm
        have k0 := R2.c0
        rw [hnn] at k0
        have m1 := R2.wt (i := q) (by rw [hnn]; exact hqn)
        have m3 := R2.wf (i := q) (by rw [hnn]; exact hqn)
        have f3 := R2.wz (q * 4 + 3)
        rw [show ({ litR R with ws := flW R.ws l j } : RefC).ws q = R.ws q by rw [hq]; exact flW_at R.ws l j] at m1 m3
        have HN := Lib.hid (And.intro (R2.setF q (R.ws q).t) (g2.trans ((grSet wr r.rw (q * 4 + 3) (.bool (R.ws q).t)).mono (cs := r.all) (fun b hb => by simp at hb; subst hb; simp [RefA.all]))))
        rw [show ({ ({ litR R with ws := flW R.ws l j } : RefC) with ws := updW (flW R.ws l j) q { flW R.ws l j q with f := (R.ws q).t } } : RefC) = { litR R with ws := flW R.ws l (j + 1) } by rw [flW_succ R.ws l j q hq]] at HN
        clear R2 g2 hq hnn
        generalize (R.ws q).t = tq at *
        generalize (R.ws q).f = fq at *
        go_wp2_with fail
        go_still_tail 21, (by kernel_rfl)
        go_wp2_with fail
        go_roundw
        case rel => exact ⟨j + 1, by omega, by go_num, HN.out.1.gr0 ((Gr.refl [] _).drew), HN.out.2.drew⟩
        case measure => simp [intOf]; omega
      · obtain rfl : j = 8 := by omega
        have HD := Lib.hid (And.intro R2 g2)
        clear R2 g2
        rw [show ((8 : Nat) : Int) = 8 from rfl]
        go_wp2_with fail
        go_ret
        refine ⟨by first | rfl | rw [HZ0.out], ?_, HD.out.2⟩
        have q := HD.out.1
        first
          | exact q
          | (rw [if_pos HZ0.out, Int.toNat_natCast]; exact q)
          | (have hn3 := HN2.out; subst hn3; exact q)
  · have HZ0 := Lib.hid h0
    have e1 : (begE R t == 0) = false := by simpa using h0
    have HD := Lib.hid (And.intro R1 g1)
    clear R1 g1 h0
    go_wp2_with fail
    refine wp_loop_rounds 1 ?_
    rw [rounds_succ]
    go_wp2_with fail
    go_ret
    exact ⟨rfl, by first | exact HD.out.1 | (rw [if_neg HZ0.out]; exact HD.out.1), HD.out.2⟩

/-! ### last: the words below k done -/
def laW (R : RefC) (S : Nat → Bool) (k : Nat) : Nat → WordS := fun i => if i < k ∧ S i = true then { m := if R.bad (i / 8) = true then (R.ws i).m else (R.ws i).v, t := false, v := (R.ws i).v, f := (R.ws i).f } else R.ws i
def laT (R : RefC) (S : Nat → Bool) (l : Nat) : Nat → Int := fun i => if i < l ∧ linesOf S i = true then R.wear i + 1 else R.wear i
theorem laW_zero (R : RefC) (S : Nat → Bool) : laW R S 0 = R.ws := by funext i; unfold laW; rw [if_neg (by omega)]
theorem laT_zero (R : RefC) (S : Nat → Bool) : laT R S 0 = R.wear := by funext i; unfold laT; rw [if_neg (by omega)]
theorem laW_at (R : RefC) (S : Nat → Bool) (k : Nat) : laW R S k k = R.ws k := by unfold laW; rw [if_neg (by omega)]
theorem laT_at (R : RefC) (S : Nat → Bool) (l : Nat) : laT R S l l = R.wear l := by unfold laT; rw [if_neg (by omega)]
theorem laW_skip (R : RefC) (S : Nat → Bool) (k : Nat) (h : S k = false) : laW R S k = laW R S (k + 1) := by
  funext i
  unfold laW
  by_cases q : i < k ∧ S i = true
  · rw [if_pos q, if_pos (show i < k + 1 ∧ S i = true from ⟨by omega, q.2⟩)]
  · rw [if_neg q, if_neg (show ¬ (i < k + 1 ∧ S i = true) from fun e => by
      by_cases c : i = k
      · subst c; rw [h] at e; cases e.2
      · exact q ⟨by omega, e.2⟩)]
theorem laW_next (R : RefC) (S : Nat → Bool) (k : Nat) (h : S k = true) (x : WordS) (hx : x = { m := if R.bad (k / 8) = true then (R.ws k).m else (R.ws k).v, t := false, v := (R.ws k).v, f := (R.ws k).f }) : updW (laW R S k) k x = laW R S (k + 1) := by
  subst hx
  funext i
  unfold updW
  by_cases c : i = k
  · subst c
    rw [if_pos (rfl : i = i)]
    unfold laW
    rw [if_pos (show i < i + 1 ∧ S i = true from ⟨by omega, h⟩)]
  · rw [if_neg c]
    unfold laW
    by_cases q : i < k ∧ S i = true
    · rw [if_pos q, if_pos (show i < k + 1 ∧ S i = true from ⟨by omega, q.2⟩)]
    · rw [if_neg q, if_neg (show ¬ (i < k + 1 ∧ S i = true) from fun e => q ⟨by omega, e.2⟩)]
theorem laT_skip (R : RefC) (S : Nat → Bool) (l : Nat) (h : linesOf S l = false) : laT R S l = laT R S (l + 1) := by
  funext i
  unfold laT
  by_cases q : i < l ∧ linesOf S i = true
  · rw [if_pos q, if_pos ⟨by omega, q.2⟩]
  · rw [if_neg q, if_neg (fun e => by
      by_cases c : i = l
      · subst c; rw [h] at e; cases e.2
      · exact q ⟨by omega, e.2⟩)]
theorem laT_next (R : RefC) (S : Nat → Bool) (l : Nat) (h : linesOf S l = true) : (fun i => if i = l then R.wear l + 1 else laT R S l i) = laT R S (l + 1) := by
  funext i
  by_cases c : i = l
  · subst c
    rw [if_pos rfl]
    unfold laT
    rw [if_pos ⟨by omega, h⟩]
  · rw [if_neg c]
    unfold laT
    by_cases q : i < l ∧ linesOf S i = true
    · rw [if_pos q, if_pos ⟨by omega, q.2⟩]
    · rw [if_neg q, if_neg (fun e => q ⟨by omega, e.2⟩)]
def lastR (R : RefC) (S : Nat → Bool) : RefC := { R with ws := laW R S (8 * R.n), wear := laT R S R.n }
structure Las (w wr : World) (r : RefA) (R : RefC) (S : Nat → Bool) (bc k l : Nat) : Prop where
  row : RefRow wr r { R with ws := laW R S k, wear := laT R S l }
  ch : Holds wr bc (rowOf (fun i => .bool (S i)) (8 * R.n)) 4
  gr : Gr r.all w wr

section
variable {w wr w' : World} {r : RefA} {R : RefC} {S : Nat → Bool} {bc k l : Nat}
theorem Las.drew (h : Las w wr r R S bc k l) : Las w wr.drew r R S bc k l := ⟨h.row.gr0 ((Gr.refl [] _).drew), h.ch.drew, h.gr.drew⟩
theorem Las.skipW (h : Las w wr r R S bc k l) (hs : S k = false) : Las w wr r R S bc (k + 1) l := ⟨by rw [← laW_skip R S k hs]; exact h.row, h.ch, h.gr⟩
theorem Las.skipT (h : Las w wr r R S bc k l) (hs : linesOf S l = false) : Las w wr r R S bc k (l + 1) := ⟨by rw [← laT_skip R S l hs]; exact h.row, h.ch, h.gr⟩
theorem Las.nextT (h : Las w wr r R S bc k l) (hs : linesOf S l = true) (hbc : bc ∉ r.all) : Las w (wr.setCell ⟨r.rr, l, none⟩ (.int .i64 (R.wear l + 1))) r R S bc k (l + 1) := by
  have g := grSet wr r.rr l (.int .i64 (R.wear l + 1))
  have q := h.row.setWear l (R.wear l + 1)
  refine ⟨?_, h.ch.gr g (by simpa using fun e => hbc (by rw [e]; simp [RefA.all])), h.gr.trans (g.mono (fun b hb => by simp at hb; subst hb; simp [RefA.all]))⟩
  rw [← laT_next R S l hs]
  exact q
/-- The word's own value first, if the line is not bad; then that it is not there. -/
theorem Las.nextW (h : Las w wr r R S bc k l) (hs : S k = true) (hb : R.bad (k / 8) = false) (hbc : bc ∉ r.all) : Las w ((wr.setCell ⟨r.rw, k * 4, none⟩ (.int .u64 ((R.ws k).v : Int))).setCell ⟨r.rw, k * 4 + 1, none⟩ (.bool false)) r R S bc (k + 1) l := by
  have g := (grSet wr r.rw (k * 4) (.int .u64 ((R.ws k).v : Int))).trans (grSet _ r.rw (k * 4 + 1) (.bool false))
  have q := (h.row.setM k (R.ws k).v).setT k false
  refine ⟨?_, h.ch.gr g (by simpa using fun e => hbc (by rw [e]; simp [RefA.all])), h.gr.trans (g.mono (fun b hb => by simp at hb; subst hb; simp [RefA.all]))⟩
  rw [← laW_next R S k hs { m := (R.ws k).v, t := false, v := (R.ws k).v, f := (R.ws k).f } (by rw [hb]; rfl)]
  dsimp only at q
  rw [updW_same, updW_twice, laW_at] at q
  exact q
theorem Las.nextB (h : Las w wr r R S bc k l) (hs : S k = true) (hb : R.bad (k / 8) = true) (hbc : bc ∉ r.all) : Las w (wr.setCell ⟨r.rw, k * 4 + 1, none⟩ (.bool false)) r R S bc (k + 1) l := by
  have g := grSet wr r.rw (k * 4 + 1) (.bool false)
  have q := h.row.setT k false
  refine ⟨?_, h.ch.gr g (by simpa using fun e => hbc (by rw [e]; simp [RefA.all])), h.gr.trans (g.mono (fun b hb => by simp at hb; subst hb; simp [RefA.all]))⟩
  rw [← laW_next R S k hs { m := (R.ws k).m, t := false, v := (R.ws k).v, f := (R.ws k).f } (by rw [hb]; rfl)]
  dsimp only at q
  rw [laW_at] at q
  exact q
end

set_option maxRecDepth 20000 in
set_option maxHeartbeats 2000000 in
theorem rlast_any (r : RefA) (R : RefC) (S : Nat → Bool) (bc n : Nat) (w : World) (h : RefRow w r R) (hn : R.n = n) (hch : Holds w bc (rowOf (fun i => .bool (S i)) (8 * n)) 4) (hbc : bc ∉ r.all) (hw : ∀ l, l < n → 0 ≤ R.wear l ∧ R.wear l < 4611686018427387904) :
    Calls Tryz.prog 58 #[.pointer (some ⟨r.rd, 0, none⟩), .slice (some ⟨bc, 0, none⟩) (8 * n) (8 * n)] w fun e w' => e = .returned (.tuple #[]) ∧ RefRow w' r (lastR R S) ∧ Gr r.all w w' := by
  have hn8 : n ≤ 8192 := by have := h.hi; omega
  have LS : Las w w r R S bc 0 0 := ⟨by rw [laW_zero, laT_zero]; exact h, by rw [hn]; exact hch, Gr.refl _ _⟩
  have HL := Lib.hid LS
  have HW := Lib.hid hw
  have HBC := Lib.hid hbc
  have HNN := Lib.hid hn
  clear h hn hch hw hbc LS
  go_enter Tryz.func58, Tryz.ntmps58
  go_wp2_with fail
  go_loopw [4] (fun i wr => ∃ l : Nat, l ≤ n ∧ i = .int .i64 (l : Int) ∧ Las w wr r R S bc (8 * l) l) (fun i _ => n - (intOf i).toNat)
  case atStart => exact ⟨0, by omega, rfl, HL.out⟩
  case round =>
    clear HL
    obtain ⟨l, hl, rfl, LS⟩ := hrel
    have k1 := LS.row.c1
    rw [show ({ R with ws := laW R S (8 * l), wear := laT R S l } : RefC).n = n from HNN.out] at k1
    by_cases hlt : l < n
    · have HL := Lib.hid LS
      have hd : decide ((l : Int) < (n : Int)) = true := by simpa using hlt
      clear LS
      go_wp2_with fail
      clear k1
      go_loopw [5, 6] (fun u i wr => ∃ (k : Nat) (sm : Bool), 8 * l ≤ k ∧ k ≤ 8 * l + 8 ∧ u = .bool sm ∧ i = .int .i64 (k : Int) ∧ (sm = true ↔ ∃ x, x / 8 = l ∧ x < k ∧ S x = true) ∧ Las w wr r R S bc k l) (fun _ i _ => 8 * l + 8 - (intOf i).toNat)
      case atStart => exact ⟨8 * l, false, by omega, by omega, rfl, by go_num, ⟨(fun e => by cases e), fun ⟨x, h1, h2, _⟩ => by omega⟩, HL.out⟩
      case round =>
        clear HL
        obtain ⟨k, sm, hk1, hk2, rfl, rfl, hsm, LS⟩ := hrel
        have HSM := Lib.hid hsm
        clear hsm
        by_cases hk : k < 8 * l + 8
        · have hdk : decide ((k : Int) < 8 * (l : Int) + 8) = true := by simp; omega
          have hk8 : k < 8 * n := by omega
          have hkb : (k : Int) < 8 * (n : Int) := by omega
          have hk0 : (0 : Int) ≤ (k : Int) := by omega
          have hkl : k / 8 = l := by omega
          have hnn : ({ R with ws := laW R S k, wear := laT R S l } : RefC).n = n := HNN.out
          have kc : wr.cell? ⟨bc, k, none⟩ = some (.bool (S k)) := by rw [LS.ch.cell, rowOf_get _ _ _ (by rw [HNN.out]; exact hk8)]
          cases hs : S k with
          | false =>
            rw [hs] at kc
            have HN := Lib.hid (LS.skipW hs)
            have HS2 := Lib.hid (show (sm = true ↔ ∃ x, x / 8 = l ∧ x < k + 1 ∧ S x = true) from by
              rw [HSM.out]
              constructor
              · rintro ⟨x, h1, h2, h3⟩; exact ⟨x, h1, by omega, h3⟩
              · rintro ⟨x, h1, h2, h3⟩
                refine ⟨x, h1, ?_, h3⟩
                by_cases e : x = k
                · subst e; rw [hs] at h3; cases h3
                · omega)
            clear LS hs HSM
            go_wp2_with fail
            go_roundw
            case rel => exact ⟨k + 1, sm, by omega, by omega, rfl, by go_num, HS2.out, HN.out⟩
            case measure => simp [intOf]; omega
          | true =>
            rw [hs] at kc
            have HS2 := Lib.hid (show ∃ x, x / 8 = l ∧ x < k + 1 ∧ S x = true from ⟨k, hkl, by omega, hs⟩)
            have k0 := LS.row.c0
            have k2 := LS.row.c2
            have kb := LS.row.badAt (i := l) (by rw [hnn]; exact hlt)
            have f1 := LS.row.wz (k * 4 + 1)
            have f0 := LS.row.wz (k * 4)
            rw [hnn] at k0 k2
            rw [show ({ R with ws := laW R S k, wear := laT R S l } : RefC).bad = R.bad from rfl] at kb
            have m0 := LS.row.wm (i := k) (by rw [hnn]; exact hk8)
            have m1 := LS.row.wt (i := k) (by rw [hnn]; exact hk8)
            have m2 := LS.row.wv (i := k) (by rw [hnn]; exact hk8)
            rw [show ({ R with ws := laW R S k, wear := laT R S l } : RefC).ws k = R.ws k from laW_at R S k] at m0 m1 m2
            cases hb : R.bad l with
            | true =>
              rw [hb] at kb
              have HN := Lib.hid (LS.nextB hs (by rw [hkl]; exact hb) HBC.out)
              clear LS hs hb HSM hnn
              generalize (R.ws k).m = wm at *
              generalize (R.ws k).t = wt at *
              generalize (R.ws k).v = wv at *
              go_wp2_with fail
              go_roundw
              case rel => exact ⟨k + 1, true, by omega, by omega, rfl, by go_num, ⟨fun _ => HS2.out, fun _ => rfl⟩, HN.out⟩
              case measure => simp [intOf]; omega
            | false =>
              rw [hb] at kb
              have HN := Lib.hid (LS.nextW hs (by rw [hkl]; exact hb) HBC.out)
              have q := LS.row.setM k (R.ws k).v
              have k0b := q.c0
              rw [show ({ ({ R with ws := laW R S k, wear := laT R S l } : RefC) with ws := updW (laW R S k) k { laW R S k k with m := (R.ws k).v } } : RefC).n = n from hnn] at k0b
              clear q LS hs hb HSM hnn
              generalize (R.ws k).m = wm at *
              generalize (R.ws k).t = wt at *
              generalize (R.ws k).v = wv at *
              go_wp2_with fail
              go_still_tail 15, (by kernel_rfl)
              go_wp2_with fail
              go_roundw
              case rel => exact ⟨k + 1, true, by omega, by omega, rfl, by go_num, ⟨fun _ => HS2.out, fun _ => rfl⟩, HN.out.drew⟩
              case measure => simp [intOf]; omega
        · have hdk : decide ((k : Int) < 8 * (l : Int) + 8) = false := by simp; omega
          obtain rfl : k = 8 * l + 8 := by omega
          have k1 := LS.row.c1
          have kw := LS.row.wearAt (i := l) (by show l < R.n; rw [HNN.out]; exact hlt)
          rw [show ({ R with ws := laW R S (8 * l + 8), wear := laT R S l } : RefC).n = n from HNN.out] at k1
          rw [show ({ R with ws := laW R S (8 * l + 8), wear := laT R S l } : RefC).wear l = R.wear l from laT_at R S l] at kw
          have fw : wr.frozen? ⟨r.rr, l, none⟩ = false := LS.row.wear.frozen l
          have hlb : (l : Int) < (n : Int) := by omega
          have hwl := HW.out l hlt
          cases sm with
          | true =>
            have hs : linesOf S l = true := linesOf_iff.2 (by obtain ⟨x, h1, _, h3⟩ := HSM.out.1 rfl; exact ⟨x, h3, h1⟩)
            have HN := Lib.hid (show Las w (wr.setCell ⟨r.rr, l, none⟩ (.int .i64 (R.wear l + 1))) r R S bc (8 * (l + 1)) (l + 1) from LS.nextT hs HBC.out)
            clear LS hs HSM
            generalize R.wear l = wl at *
            go_wp2_with fail
            go_roundw
            case rel => exact ⟨l + 1, by omega, by go_num, HN.out⟩
            case measure => simp [intOf]; omega
          | false =>
            have hs : linesOf S l = false := by
              cases hq : linesOf S l with
              | false => rfl
              | true =>
                obtain ⟨x, h1, h2⟩ := linesOf_iff.1 hq
                have := HSM.out.2 ⟨x, h2, by omega, h1⟩
                cases this
            have HN := Lib.hid (show Las w wr r R S bc (8 * (l + 1)) (l + 1) from LS.skipT hs)
            clear LS hs HSM
            generalize R.wear l = wl at *
            go_wp2_with fail
            go_roundw
            case rel => exact ⟨l + 1, by omega, by go_num, HN.out⟩
            case measure => simp [intOf]; omega
    · obtain rfl : l = n := by omega
      have HL := Lib.hid LS
      have hd : decide ((l : Int) < (l : Int)) = false := by simp
      clear LS
      go_wp2_with fail
      go_returns
      refine ⟨rfl, ?_, HL.out.gr⟩
      have q := HL.out.row
      rw [← HNN.out] at q
      exact q

end Go.Proofs.YtdgcninmpcmdcaaGreat

/-
  The reference of layer 3: Fence, Boot.
-/
namespace Go.Proofs.YtdgcninmpcmdcaaGreat
open Go.RowKit

/-- A row of bools, the first i of which are S's. -/
def chB (S : Nat → Bool) (i : Nat) : Nat → Value := fun k => .bool (if k < i then S k else false)
theorem chB_zero (S : Nat → Bool) (n : Nat) : rowOf (fun _ => Value.bool false) n = rowOf (chB S 0) n := rowOf_congr fun i _ => by unfold chB; rw [if_neg (by omega)]
theorem chB_all (S : Nat → Bool) (n : Nat) : rowOf (chB S n) n = rowOf (fun i => .bool (S i)) n := rowOf_congr fun i hi => by unfold chB; rw [if_pos hi]
theorem Holds.chB_next {W : World} {b : Nat} {S : Nat → Bool} {i n : Nat} {t : TypeId} (h : Holds W b (rowOf (chB S i) n) t) : Holds (W.setCell ⟨b, i, none⟩ (.bool (S i))) b (rowOf (chB S (i + 1)) n) t := by
  have q := h.set i (.bool (S i))
  rw [rowOf_set, rowOf_congr (g' := chB S (i + 1)) (fun k _ => by
    unfold chB
    by_cases e : k = i
    · subst e; rw [if_pos rfl, if_pos (by omega)]
    · rw [if_neg e]
      by_cases c : k < i
      · rw [if_pos c, if_pos (by omega)]
      · rw [if_neg c, if_neg (by omega)])] at q
  exact q
theorem Holds.chB_skip {W : World} {b : Nat} {S : Nat → Bool} {i n : Nat} {t : TypeId} (h : Holds W b (rowOf (chB S i) n) t) (hs : S i = false) : Holds W b (rowOf (chB S (i + 1)) n) t := by
  rw [rowOf_congr (g' := chB S i) (fun k _ => by
    unfold chB
    by_cases e : k = i
    · subst e; rw [if_pos (by omega), if_neg (by omega), hs]
    · by_cases c : k < i
      · rw [if_pos c, if_pos (by omega)]
      · rw [if_neg c, if_neg (by omega)])]
  exact h
def fenS (R : RefC) : Nat → Bool := fun i => (R.ws i).t && (R.ws i).f
def fenceR (R : RefC) : RefC := if begE R true = 0 then lastR (litR R) (fenS R) else begR R true

set_option maxRecDepth 20000 in
set_option maxHeartbeats 2000000 in
theorem rfence_any (r : RefA) (R : RefC) (w : World) (h : RefRow w r R) (hc : R.cnt < 4611686018427387904) (hf : 0 ≤ R.fuse ∧ R.fuse ≤ 9223372036854775807) (hw : ∀ l, l < R.n → 0 ≤ R.wear l ∧ R.wear l < 4611686018427387904) :
    Calls Tryz.prog 145 #[.pointer (some ⟨r.rd, 0, none⟩)] w fun e w' => e = .returned (.int .i64 (begE R true)) ∧ RefRow w' r (fenceR R) ∧ Gr r.all w w' := by
  have hn := h.hi
  have HB := Lib.hid (rbegin_any r R 0 1 w h hc hf)
  rw [show decide ((0 : Int) ≤ 0 ∧ (0 : Int) < 1) = true from rfl] at HB
  have HW := Lib.hid hw
  obtain ⟨n, hn2⟩ : ∃ n, n = R.n := ⟨_, rfl⟩
  rw [← hn2] at hn
  have HN2 := Lib.hid hn2
  clear h hn2 hc hf hw
  have m3 := fun W => make_run (.bool false) 1 (8 * n) (8 * (n : Int)) (by omega) Tryz.underlying38 infoB rfl (by omega) (by omega) W
  obtain ⟨R3, hr3⟩ : ∃ Z, rowOf (fun _ => Value.bool false) (8 * n) = Z := ⟨_, rfl⟩
  rw [hr3] at m3
  have HR3 := Lib.hid hr3
  clear hr3
  go_enter Tryz.func145, Tryz.ntmps145
  go_wp2_with fail
  refine HB.out.mono ?_
  rintro e w1 ⟨rfl, R1, g1⟩
  by_cases h0 : begE R true = 0
  · have HZ0 := Lib.hid h0
    rw [h0]
    rw [(begE_zero h0).2] at R1
    have k0 := R1.c0
    rw [show (litR R).n = n from HN2.out.symm] at k0
    have X := Holds.new w1 R3 4
    have hlt := R1.lt
    have G2 := (Gr.refl [] w1).alloc (Obj.cells R3 4)
    have HD := Lib.hid (And.intro (R1.gr0 G2) (g1.next0 G2))
    have HX := Lib.hid (show Holds (w1.alloc (Obj.cells R3 4)) w1.heap.size (rowOf (chB (fenS R) 0) (8 * n)) 4 by rw [← chB_zero, HR3.out]; exact X)
    have HBC := Lib.hid (show w1.heap.size ∉ r.all from fun e => by have := hlt _ e; omega)
    have HBS := Lib.hid (show w.heap.size ≤ w1.heap.size from g1.size)
    have HBL := Lib.hid (show w1.heap.size < (w1.alloc (Obj.cells R3 4)).heap.size by rw [World.size_alloc]; omega)
    clear R1 X hlt G2 g1 h0
    go_wp2_with fail
    clear k0 m3
    generalize w1.alloc (Obj.cells R3 4) = wa at *
    generalize w1.heap.size = bc at *
    go_loopw [5] (fun z wr => ∃ i : Nat, i ≤ 8 * n ∧ z = .int .i64 (i : Int) ∧ RefRow wr r (litR R) ∧ Holds wr bc (rowOf (chB (fenS R) i) (8 * n)) 4 ∧ Gr r.all w wr) (fun z _ => 8 * n - (intOf z).toNat)
    case atStart => exact ⟨0, by omega, rfl, HD.out.1, HX.out, HD.out.2⟩
    case round =>
      clear HD HX
      obtain ⟨i, hi, rfl, R2, C2, g2⟩ := hrel
      have k0 := R2.c0
      rw [show (litR R).n = n from HN2.out.symm] at k0
      by_cases hlt : i < 8 * n
      · have hib : (i : Int) < 8 * (n : Int) := by omega
        have hi0 : (0 : Int) ≤ (i : Int) := by omega
        have hd : decide ((i : Int) < 8 * (n : Int)) = true := by simp; omega
        have m1 := R2.wt (i := i) (by show i < 8 * R.n; rw [← HN2.out]; exact hlt)
        have m3 := R2.wf (i := i) (by show i < 8 * R.n; rw [← HN2.out]; exact hlt)
        rw [show (litR R).ws i = R.ws i from rfl] at m1 m3
        have kc : wr.cell? ⟨bc, i, none⟩ = some (.bool false) := by rw [C2.cell, rowOf_get _ _ _ hlt]; unfold chB; rw [if_neg (by omega)]
        have fc : wr.frozen? ⟨bc, i, none⟩ = false := C2.frozen i
        have gs := grSet wr bc i (.bool (fenS R i))
        have HNX := Lib.hid (And.intro (R2.gr gs (fun b hb e => HBC.out (by simp at e; subst e; exact hb))) (And.intro C2.chB_next (g2.nextN gs (fun x hx => by simp at hx; subst hx; exact .inr HBS.out))))
        clear R2 C2 g2 gs
        unfold fenS at HNX
        cases ht : (R.ws i).t with
        | true =>
          rw [ht] at m1 HNX
          rw [Bool.true_and] at HNX
          clear ht
          generalize (R.ws i).f = fi at *
          go_wp2_with fail
          go_roundw
          case rel => exact ⟨i + 1, by omega, by go_num, HNX.out.1, HNX.out.2.1, HNX.out.2.2⟩
          case measure => simp [intOf]; omega
        | false =>
          rw [ht] at m1 HNX
          rw [Bool.false_and] at HNX
          clear ht m3
          go_wp2_with fail
          go_roundw
          case rel => exact ⟨i + 1, by omega, by go_num, HNX.out.1, HNX.out.2.1, HNX.out.2.2⟩
          case measure => simp [intOf]; omega
      · obtain rfl : i = 8 * n := by omega
        rw [chB_all] at C2
        have HLa := Lib.hid (rlast_any r (litR R) (fenS R) bc n wr R2 HN2.out.symm C2 HBC.out (fun l hl => HW.out l (by rw [← HN2.out]; exact hl)))
        have HG2 := Lib.hid g2
        have hd : decide (((8 * n : Nat) : Int) < 8 * (n : Int)) = false := by simp
        clear R2 C2 g2
        go_wp2_with fail
        refine HLa.out.mono ?_
        rintro e w3 ⟨rfl, R3', g3⟩
        have HD := Lib.hid (And.intro R3' (HG2.out.trans g3))
        clear R3' g3
        go_wp2_with fail
        go_ret
        refine ⟨by rw [HZ0.out]; rfl, ?_, HD.out.2⟩
        unfold fenceR
        rw [if_pos HZ0.out]
        exact HD.out.1
  · have HZ0 := Lib.hid h0
    have e1 : (begE R true == 0) = false := by simpa using h0
    have HD := Lib.hid (And.intro R1 g1)
    clear R1 g1 h0 m3
    go_wp2_with fail
    go_ret
    refine ⟨rfl, ?_, HD.out.2⟩
    unfold fenceR
    rw [if_neg HZ0.out]
    exact HD.out.1

/-! ### Boot -/
theorem bootS_at {L : List Nat} {kp : Nat → Bool} {k i : Nat} (hn : L.Nodup) (h : L[k]? = some i) : bootS L kp i = kp k := by
  obtain ⟨q1, q2⟩ := List.getElem?_eq_some_iff.1 h
  unfold bootS
  rw [Bool.eq_iff_iff, List.any_eq_true]
  constructor
  · rintro ⟨j, h1, h2⟩
    rw [List.mem_range] at h1
    rw [Bool.and_eq_true, decide_eq_true_eq] at h2
    obtain ⟨q3, q4⟩ := List.getElem?_eq_some_iff.1 h2.2
    have : j = k := (List.getElem_inj hn (h₀ := q3) (h₁ := q1)).1 (q4.trans q2.symm)
    subst this
    exact h2.1
  · intro hk
    exact ⟨k, List.mem_range.2 q1, by rw [Bool.and_eq_true, decide_eq_true_eq]; exact ⟨hk, h⟩⟩
theorem bootS_no {L : List Nat} {kp : Nat → Bool} {i : Nat} (h : i ∉ L) : bootS L kp i = false := by
  unfold bootS
  rw [List.any_eq_false]
  intro j _ e
  rw [Bool.and_eq_true, decide_eq_true_eq] at e
  exact h (List.mem_of_getElem? e.2)
/-- k of L's members are less than i. -/
def Upto (L : List Nat) (k i : Nat) : Prop := k ≤ L.length ∧ (∀ j x, j < k → L[j]? = some x → x < i) ∧ ∀ j x, k ≤ j → L[j]? = some x → i ≤ x
theorem Upto.skip {L : List Nat} {k i : Nat} (h : Upto L k i) (hi : i ∉ L) : Upto L k (i + 1) :=
  ⟨h.1, fun j x h1 h2 => by have := h.2.1 j x h1 h2; omega, fun j x h1 h2 => by
    have := h.2.2 j x h1 h2
    have hne : x ≠ i := fun e => hi (by rw [← e]; exact List.mem_of_getElem? h2)
    omega⟩
theorem sorted_lt {L : List Nat} (hs : L.Pairwise (· < ·)) {j k x y : Nat} (hjk : j < k) (hj : L[j]? = some x) (hk : L[k]? = some y) : x < y := by
  obtain ⟨q1, q2⟩ := List.getElem?_eq_some_iff.1 hj
  obtain ⟨q3, q4⟩ := List.getElem?_eq_some_iff.1 hk
  have := List.pairwise_iff_getElem.1 hs j k q1 q3 hjk
  rw [q2, q4] at this
  exact this
theorem Upto.hit {L : List Nat} {k i : Nat} (h : Upto L k i) (hs : L.Pairwise (· < ·)) (hi : i ∈ L) : L[k]? = some i := by
  obtain ⟨j, hj⟩ := List.getElem?_of_mem hi
  by_cases c : j < k
  · have := h.2.1 j i c hj; omega
  · by_cases d : j = k
    · subst d; exact hj
    · have hkl : k < L.length := by have := (List.getElem?_eq_some_iff.1 hj).1; omega
      have hk : L[k]? = some L[k] := List.getElem?_eq_getElem hkl
      have h1 := sorted_lt hs (show k < j by omega) hk hj
      have h2 := h.2.2 k _ (Nat.le_refl _) hk
      omega
theorem Upto.next {L : List Nat} {k i : Nat} (h : Upto L k i) (hs : L.Pairwise (· < ·)) (hi : i ∈ L) : Upto L (k + 1) (i + 1) := by
  have hk := h.hit hs hi
  refine ⟨(List.getElem?_eq_some_iff.1 hk).1, fun j x h1 h2 => ?_, fun j x h1 h2 => ?_⟩
  · by_cases c : j < k
    · have := h.2.1 j x c h2; omega
    · obtain rfl : j = k := by omega
      rw [hk] at h2
      have : i = x := Option.some.inj h2
      omega
  · have := sorted_lt hs (show k < j by omega) hk h2
    omega
def clrW (ws : Nat → WordS) (i : Nat) : Nat → WordS := fun k => if k < i then { m := (ws k).m, t := false, v := (ws k).v, f := (ws k).f } else ws k
theorem clrW_zero (ws : Nat → WordS) : clrW ws 0 = ws := by funext k; unfold clrW; rw [if_neg (by omega)]
theorem clrW_next (ws : Nat → WordS) (i : Nat) : updW (clrW ws i) i { clrW ws i i with t := false } = clrW ws (i + 1) := by
  funext k
  unfold updW clrW
  by_cases e : k = i
  · subst e; rw [if_pos rfl, if_neg (by omega), if_pos (by omega)]
  · rw [if_neg e]
    by_cases c : k < i
    · rw [if_pos c, if_pos (by omega)]
    · rw [if_neg c, if_neg (by omega)]
def bootR (R : RefC) (L : List Nat) (kp : Nat → Bool) : RefC := { lastR R (bootS L kp) with ws := clrW (lastR R (bootS L kp)).ws (8 * R.n), off := false, fuse := 0 }

set_option maxRecDepth 20000 in
set_option maxHeartbeats 2000000 in
theorem rboot_any (r : RefA) (R : RefC) (kv : Value) (kl : Nat) (kp : Nat → Bool) (L : List Nat) (w : World) (h : RefRow w r R) (hk : KeepIs w kv kl kp) (hw : ∀ l, l < R.n → 0 ≤ R.wear l ∧ R.wear l < 4611686018427387904)
    (hs : L.Pairwise (· < ·)) (hm : ∀ x, x < 8 * R.n → (x ∈ L ↔ (R.ws x).t = true)) :
    Calls Tryz.prog 19 #[.pointer (some ⟨r.rd, 0, none⟩), kv] w fun e w' => e = .returned (.tuple #[]) ∧ RefRow w' r (bootR R L kp) ∧ Gr r.all w w' := by
  have hn := h.hi
  have c0 := h.c0
  obtain ⟨ao, kc, rfl, hk1, hk2, hk3⟩ := hk
  have HK := Lib.hid (And.intro hk1 hk2)
  have HW := Lib.hid hw
  have HL := Lib.hid (And.intro hs hm)
  obtain ⟨n, hn2⟩ : ∃ n, n = R.n := ⟨_, rfl⟩
  rw [← hn2] at hn c0
  have HN2 := Lib.hid hn2
  have H := Lib.hid h
  unfold maxLen at hk3
  clear h hn2 hw hs hm hk1 hk2
  have m3 := fun W => make_run (.bool false) 1 (8 * n) (8 * (n : Int)) (by omega) Tryz.underlying38 infoB rfl (by omega) (by omega) W
  obtain ⟨R3, hr3⟩ : ∃ Z, rowOf (fun _ => Value.bool false) (8 * n) = Z := ⟨_, rfl⟩
  rw [hr3] at m3
  have HR3 := Lib.hid hr3
  clear hr3
  go_enter Tryz.func19, Tryz.ntmps19
  go_wp2_with fail
  have X := Holds.new w R3 4
  have G2 := (Gr.refl [] w).alloc (Obj.cells R3 4)
  have HD := Lib.hid (And.intro (H.out.gr0 G2) G2)
  have HX := Lib.hid (show Holds (w.alloc (Obj.cells R3 4)) w.heap.size (rowOf (chB (bootS L kp) 0) (8 * n)) 4 by rw [← chB_zero, HR3.out]; exact X)
  have HBC := Lib.hid (show w.heap.size ∉ r.all from fun e => by have := H.out.lt _ e; omega)
  clear X G2 c0 m3
  generalize w.alloc (Obj.cells R3 4) = wa at *
  obtain ⟨bc, hbc⟩ : ∃ bc, w.heap.size = bc := ⟨_, rfl⟩
  rw [hbc] at HX HBC ⊢
  have HBS := Lib.hid hbc
  clear hbc
  go_loopw [5, 6] (fun u z wr => ∃ (k i : Nat), i ≤ 8 * n ∧ u = .int .i64 (k : Int) ∧ z = .int .i64 (i : Int) ∧ k ≤ i ∧ Upto L k i ∧ Holds wr bc (rowOf (chB (bootS L kp) i) (8 * n)) 4 ∧ Gr [] w wr) (fun _ z _ => 8 * n - (intOf z).toNat)
  case atStart => exact ⟨0, 0, by omega, rfl, rfl, by omega, ⟨by omega, (fun j x h1 => by omega), (fun j x _ _ => by omega)⟩, HX.out, HD.out.2⟩
  case round =>
    clear HD HX
    obtain ⟨k, i, hi, rfl, rfl, hki, U2, C2, g2⟩ := hrel
    have R2 := H.out.gr0 g2
    have k0 := R2.c0
    rw [← HN2.out] at k0
    by_cases hlt : i < 8 * n
    · have hib : (i : Int) < 8 * (n : Int) := by omega
      have hi0 : (0 : Int) ≤ (i : Int) := by omega
      have hd : decide ((i : Int) < 8 * (n : Int)) = true := by simp; omega
      have m1 := R2.wt (i := i) (by rw [← HN2.out]; exact hlt)
      have hml := HL.out.2 i (by rw [← HN2.out]; exact hlt)
      cases ht : (R.ws i).t with
      | false =>
        rw [ht] at m1 hml
        have hnot : i ∉ L := fun e => by have := hml.1 e; cases this
        have HNX := Lib.hid (And.intro (U2.skip hnot) (And.intro (C2.chB_skip (bootS_no hnot)) g2))
        clear R2 U2 C2 g2 hml hnot ht
        go_wp2_with fail
        go_roundw
        case rel => exact ⟨k, i + 1, by omega, rfl, by go_num, by omega, HNX.out.1, HNX.out.2.1, HNX.out.2.2⟩
        case measure => simp [intOf]; omega
      | true =>
        rw [ht] at m1 hml
        have hin : i ∈ L := hml.2 rfl
        have hat := bootS_at (kp := kp) (HL.out.1.imp fun {x y} h => by omega) (U2.hit HL.out.1 hin)
        have kcc : wr.cell? ⟨bc, i, none⟩ = some (.bool false) := by rw [C2.cell, rowOf_get _ _ _ hlt]; unfold chB; rw [if_neg (by omega)]
        have fc : wr.frozen? ⟨bc, i, none⟩ = false := C2.frozen i
        have gs := grSet wr bc i (.bool (bootS L kp i))
        have HNX := Lib.hid (And.intro (U2.next HL.out.1 hin) (And.intro C2.chB_next (g2.nextN gs (fun x hx => by simp at hx; subst hx; exact .inr (by have := HBS.out; omega)))))
        rw [hat] at HNX
        have hwk : 0 ≤ (k : Int) := by omega
        have HG2 := Lib.hid g2
        clear R2 U2 C2 g2 gs hml hin hat ht
        by_cases hkl : k < kl
        · obtain ⟨b, o, rfl, hb, hc2⟩ := HK.out.1 k hkl
          have e2 : wr.cell? ⟨b, o + k, none⟩ = some (.bool (kp k)) := (HG2.out.cell0 hb).trans hc2
          have hd2 : decide ((k : Int) < (kl : Int)) = true := by simpa using hkl
          clear hc2 hb
          generalize kp k = q at *
          go_wp2_with fail
          go_roundw
          case rel => exact ⟨k + 1, i + 1, by omega, by go_num, by go_num, by omega, HNX.out.1, HNX.out.2.1, HNX.out.2.2⟩
          case measure => simp [intOf]; omega
        · have hd2 : decide ((k : Int) < (kl : Int)) = false := by simp; omega
          rw [HK.out.2 k (by omega)] at HNX
          go_wp2_with fail
          go_roundw
          case rel => exact ⟨k + 1, i + 1, by omega, by go_num, by go_num, by omega, HNX.out.1, HNX.out.2.1, HNX.out.2.2⟩
          case measure => simp [intOf]; omega
    · obtain rfl : i = 8 * n := by omega
      rw [chB_all] at C2
      have HLa := Lib.hid (rlast_any r R (bootS L kp) bc n wr R2 HN2.out.symm C2 HBC.out (fun l hl => HW.out l (by rw [← HN2.out]; exact hl)))
      have HG2 := Lib.hid g2
      have hd : decide (((8 * n : Nat) : Int) < 8 * (n : Int)) = false := by simp
      clear R2 C2 g2 U2
      go_wp2_with fail
      refine HLa.out.mono ?_
      rintro e w3 ⟨rfl, R3', g3⟩
      have HD := Lib.hid (And.intro (show RefRow w3 r { lastR R (bootS L kp) with ws := clrW (lastR R (bootS L kp)).ws 0 } by rw [clrW_zero]; exact R3') (HG2.out.of0.trans g3))
      clear R3' g3 k0
      go_wp2_with fail
      go_loopw [7] (fun z wr => ∃ i : Nat, i ≤ 8 * n ∧ z = .int .i64 (i : Int) ∧ RefRow wr r { lastR R (bootS L kp) with ws := clrW (lastR R (bootS L kp)).ws i } ∧ Gr r.all w wr) (fun z _ => 8 * n - (intOf z).toNat)
      case atStart => exact ⟨0, by omega, rfl, HD.out.1, HD.out.2⟩
      case round =>
        clear HD
        obtain ⟨i, hi, rfl, R4, g4⟩ := hrel
        have k0 := R4.c0
        rw [show ({ lastR R (bootS L kp) with ws := clrW (lastR R (bootS L kp)).ws i } : RefC).n = n from HN2.out.symm] at k0
        by_cases hlt : i < 8 * n
        · have hib : (i : Int) < 8 * (n : Int) := by omega
          have hi0 : (0 : Int) ≤ (i : Int) := by omega
          have hd : decide ((i : Int) < 8 * (n : Int)) = true := by simp; omega
          have m1 := R4.wt (i := i) (by show i < 8 * R.n; rw [← HN2.out]; exact hlt)
          have f1 := R4.wz (i * 4 + 1)
          have HNX := Lib.hid (And.intro (show RefRow (wr.setCell ⟨r.rw, i * 4 + 1, none⟩ (.bool false)) r { lastR R (bootS L kp) with ws := clrW (lastR R (bootS L kp)).ws (i + 1) } by
            have q := R4.setT i false
            dsimp only at q
            rw [clrW_next] at q
            exact q) (g4.trans ((grSet wr r.rw (i * 4 + 1) (.bool false)).mono (cs := r.all) (fun b hb => by simp at hb; subst hb; simp [RefA.all]))))
          clear R4 g4
          generalize (({ lastR R (bootS L kp) with ws := clrW (lastR R (bootS L kp)).ws i } : RefC).ws i).t = ti at *
          go_wp2_with fail
          go_roundw
          case rel => exact ⟨i + 1, by omega, by go_num, HNX.out.1, HNX.out.2⟩
          case measure => simp [intOf]; omega
        · obtain rfl : i = 8 * n := by omega
          have hd : decide (((8 * n : Nat) : Int) < 8 * (n : Int)) = false := by simp
          have k4 := R4.c4
          have f4 := R4.fr 4
          have f3 := (R4.setOff false).fr 3
          have k3 := (R4.setOff false).c3
          have HNX := Lib.hid (And.intro ((R4.setOff false).setFuse 0) (g4.trans (((grSet wr r.rd 4 (.bool false)).trans (grSet _ r.rd 3 (.int .i64 0))).mono (cs := r.all) (fun b hb => by simp at hb; subst hb; simp [RefA.all]))))
          clear R4 g4
          go_wp2_with fail
          go_returns
          refine ⟨rfl, ?_, HNX.out.2⟩
          have q := HNX.out.1
          rw [HN2.out] at q
          exact q

end Go.Proofs.YtdgcninmpcmdcaaGreat

/-
  The reference of layer 3: Pending, New.
-/
namespace Go.Proofs.YtdgcninmpcmdcaaGreat
open Go.RowKit

structure Pnd (w1 wr : World) (R : RefC) (v : Value) (M : List Nat) (k : Nat) : Prop where
  own : wr.ownsRow w1.heap.size 3 1 v M.length (M.map iW)
  gr : Gr [] w1 wr
  nil : v = .slice none 0 0 ∨ M ≠ []
  srt : M.Pairwise (· < ·)
  mem : ∀ x, x ∈ M ↔ x < k ∧ (R.ws x).t = true
theorem Pnd.skip {w1 wr : World} {R : RefC} {v : Value} {M : List Nat} {k : Nat} (Q : Pnd w1 wr R v M k) (h : (R.ws k).t = false) : Pnd w1 wr R v M (k + 1) := by
  refine ⟨Q.own, Q.gr, Q.nil, Q.srt, fun x => ?_⟩
  rw [Q.mem x]
  constructor
  · rintro ⟨h1, h2⟩; exact ⟨by omega, h2⟩
  · rintro ⟨h1, h2⟩
    by_cases e : x = k
    · subst e; rw [h] at h2; cases h2
    · exact ⟨by omega, h2⟩
theorem Pnd.take {w1 wr w2 w3 : World} {R : RefC} {v v' : Value} {M : List Nat} {k : Nat} (Q : Pnd w1 wr R v M k) (h : (R.ws k).t = true) (g2 : Gr [] wr w2) (hg : w2.grownBy w3 v.ownBlock) (ho : w3.ownsRow w1.heap.size 3 1 v' (M.length + 1) (M.map iW ++ [iW k])) :
    Pnd w1 w3 R v' (M ++ [k]) (k + 1) := by
  refine ⟨by rw [List.length_append, List.map_append]; exact ho, (Q.gr.next0 g2).grown hg (fun k hk => .inr (Q.own.lt k hk).1), .inr (by simp), ?_, fun y => ?_⟩
  · rw [List.pairwise_append]
    refine ⟨Q.srt, by simp, fun y hy z hz => ?_⟩
    rw [List.mem_singleton] at hz
    subst hz
    exact ((Q.mem y).1 hy).1
  · rw [List.mem_append, List.mem_singleton, Q.mem y]
    constructor
    · rintro (⟨h1, h2⟩ | rfl)
      · exact ⟨by omega, h2⟩
      · exact ⟨by omega, h⟩
    · rintro ⟨h1, h2⟩
      by_cases e : y = k
      · exact .inr e
      · exact .inl ⟨by omega, h2⟩
theorem sorted_len (N : Nat) (M : List Nat) (h : M.Pairwise (· < ·)) (hb : ∀ x ∈ M, x < N) : M.length ≤ N := nodup_len N M (h.imp fun {x y} h => by omega) hb

/-! ### New -/
theorem infoW : (Tryz.prog.info? 113).map (fun i => (i.zero, i.size, i.bytes)) = some (some (.agg #[.int .u64 0, .bool false, .int .u64 0, .bool false]), 4, 32) := by kernel_rfl
def zeroW : Nat → WordS := fun _ => ⟨0, false, 0, false⟩
theorem zeroW_row (n : Nat) : (madeCells (Value.cells (.agg #[.int .u64 0, .bool false, .int .u64 0, .bool false])) (n * 4)).toList.toArray = rowOf (wcell zeroW) (4 * n) := by
  apply Array.ext
  · simp [rowOf, madeCells]; omega
  · intro i h1 h2
    have h4 : i % 4 = 0 ∨ i % 4 = 1 ∨ i % 4 = 2 ∨ i % 4 = 3 := by omega
    simp only [rowOf, madeCells, Value.cells]
    rcases h4 with h | h | h | h <;> simp [wcell, zeroW, h]
theorem makeW_run (n : Nat) (hn : n ≤ 8192) (W : World) :
    (Instr.makeSlice 51 (.int .i64 (8 * (n : Int))) (.int .i64 (8 * (n : Int)))).run Tryz.prog W = .ok (.slice (some ⟨W.heap.size, 0, none⟩) (8 * n) (8 * n)) (W.alloc (.cells (rowOf (wcell zeroW) (4 * (8 * n))) 113)) := by
  obtain ⟨i0, h0, hz0, hz1, hz2⟩ := info_parts infoW
  have hb : i0.bytes * (8 * n) ≤ 32 * 65536 := Nat.mul_le_mul (by omega) (by omega)
  have e : 8 * (n : Int) = ((8 * n : Nat) : Int) := by omega
  rw [e]
  have hbm2 : (i0.bytes : Int) * ((8 * n : Nat) : Int) ≤ 281474976710656 := by
    have q : ((i0.bytes * (8 * n) : Nat) : Int) ≤ 32 * 65536 := by omega
    rw [Int.natCast_mul] at q
    omega
  have r := run_make (P := Tryz.prog) W 51 113 i0 _ Tryz.underlying51 h0 hz0 .i64 .i64 ((8 * n : Nat) : Int) ((8 * n : Nat) : Int) (by omega) (Int.le_refl _) hbm2 (by omega)
  simp only [Int.toNat_natCast, hz1] at r
  rw [r, ← zeroW_row (8 * n)]
def newRC (n : Nat) : RefC := { n := n, ws := zeroW, wear := fun _ => 0, bad := fun _ => false, fuse := 0, off := false, cnt := 0 }
section
variable (w : World) (A B C H : Obj)
theorem four0 : (((((w.alloc A).alloc B).alloc C).alloc H).drew).heap[w.heap.size]? = some A := by
  show ((((w.heap.push A).push B).push C).push H)[w.heap.size]? = some A
  rw [Array.getElem?_push, if_neg (by simp only [Array.size_push]; omega), Array.getElem?_push, if_neg (by simp only [Array.size_push]; omega), Array.getElem?_push, if_neg (by simp only [Array.size_push]; omega), Array.getElem?_push, if_pos rfl]
theorem four1 : (((((w.alloc A).alloc B).alloc C).alloc H).drew).heap[w.heap.size + 1]? = some B := by
  show ((((w.heap.push A).push B).push C).push H)[w.heap.size + 1]? = some B
  rw [Array.getElem?_push, if_neg (by simp only [Array.size_push]; omega), Array.getElem?_push, if_neg (by simp only [Array.size_push]; omega), Array.getElem?_push, if_pos (by simp only [Array.size_push])]
theorem four2 : (((((w.alloc A).alloc B).alloc C).alloc H).drew).heap[w.heap.size + 1 + 1]? = some C := by
  show ((((w.heap.push A).push B).push C).push H)[w.heap.size + 1 + 1]? = some C
  rw [Array.getElem?_push, if_neg (by simp only [Array.size_push]; omega), Array.getElem?_push, if_pos (by simp only [Array.size_push])]
theorem four3 : (((((w.alloc A).alloc B).alloc C).alloc H).drew).heap[w.heap.size + 1 + 1 + 1]? = some H := by
  show ((((w.heap.push A).push B).push C).push H)[w.heap.size + 1 + 1 + 1]? = some H
  rw [Array.getElem?_push, if_pos (by simp only [Array.size_push])]
end
theorem rnew_fin {w W : World} {n b4 bm bw bg : Nat} {R1 R2 R3 : Array Value} (h1 : 1 ≤ n) (h2 : n ≤ 8192) (HR : rowOf (wcell zeroW) (4 * (8 * n)) = R1 ∧ rowOf (fun _ => Value.int .i64 0) n = R2 ∧ rowOf (fun _ => Value.bool false) n = R3)
    (hH : W.heap[b4]? = some (.cells #[.slice (some ⟨bm, 0, none⟩) (8 * n) (8 * n), .slice (some ⟨bw, 0, none⟩) n n, .slice (some ⟨bg, 0, none⟩) n n, .int .i64 0, .bool false, .int .i64 0] 54))
    (q1 : W.heap[bm]? = some (.cells R1 113)) (q3 : W.heap[bw]? = some (.cells R2 3)) (q4 : W.heap[bg]? = some (.cells R3 4))
    (nd : [b4, bm, bw, bg].Nodup) (lo : ∀ b ∈ [b4, bm, bw, bg], w.heap.size ≤ b) (g : Gr [] w W) :
    RefRow W ⟨b4, bm, bw, bg⟩ (newRC n) ∧ (∀ b ∈ (RefA.mk b4 bm bw bg).all, w.heap.size ≤ b) ∧ Gr [] w W := by
  obtain ⟨rfl, rfl, rfl⟩ := HR
  exact ⟨⟨hH, q1, q3, q4, nd, h1, h2⟩, lo, g⟩

set_option maxRecDepth 20000 in
set_option maxHeartbeats 4000000 in
theorem rnew_any (n : Nat) (w : World) (h1 : 1 ≤ n) (h2 : n ≤ 8192) :
    Calls Tryz.prog 27 #[.int .i64 (n : Int)] w fun e w' => ∃ r : RefA, e = .returned (.pointer (some ⟨r.rd, 0, none⟩)) ∧ RefRow w' r (newRC n) ∧ (∀ b ∈ r.all, w.heap.size ≤ b) ∧ Gr [] w w' := by
  have m1 := fun W => makeW_run n h2 W
  have m2 := fun W => make_run (.int .i64 0) 8 n n rfl Tryz.underlying52 infoI64 rfl (by omega) (by omega) W
  have m3 := fun W => make_run (.bool false) 1 n n rfl Tryz.underlying38 infoB rfl (by omega) (by omega) W
  generalize hr1 : rowOf (wcell zeroW) (4 * (8 * n)) = R1 at *
  generalize hr2 : rowOf (fun _ => Value.int .i64 0) n = R2 at *
  generalize hr3 : rowOf (fun _ => Value.bool false) n = R3 at *
  have HR := Lib.hid (And.intro hr1 (And.intro hr2 hr3))
  clear hr1 hr2 hr3
  go_enter Tryz.func27, Tryz.ntmps27
  go_wp2_with fail
  go_region
  all_goals go_wp2
  all_goals go_ret
  all_goals
    refine ⟨⟨_, _, _, _⟩, rfl, rnew_fin (w := w) h1 h2 HR.out (four3 w _ _ _ _) ?_ ?_ ?_ ?_ ?_ ?_⟩
    · first | exact four0 w _ _ _ _ | exact four1 w _ _ _ _ | exact four2 w _ _ _ _
    · first | exact four0 w _ _ _ _ | exact four1 w _ _ _ _ | exact four2 w _ _ _ _
    · first | exact four0 w _ _ _ _ | exact four1 w _ _ _ _ | exact four2 w _ _ _ _
    · simp only [List.nodup_cons, List.mem_cons, List.not_mem_nil, or_false, not_or, List.nodup_nil, and_true, not_false_eq_true]; omega
    · intro b hb; simp only [List.mem_cons, List.not_mem_nil, or_false] at hb; omega
    · exact (((((Gr.refl _ _).alloc _).alloc _).alloc _).alloc _).drew

end Go.Proofs.YtdgcninmpcmdcaaGreat

/-
  The reference of layer 3 against the device's state.
-/
namespace Go.Proofs.YtdgcninmpcmdcaaGreat
open Go.RowKit
set_option linter.unusedVariables false

section
variable {D : DevS} {R : RefC}
theorem Says.reach (h : Says D R) (t : Bool) : reachR R t = reachE D t := by unfold reachR reachE; rw [h.off]
theorem Says.beg (h : Says D R) (t : Bool) : begE R t = opE D t := by unfold begE opE; rw [h.reach, h.fuse]
theorem Says.lit (h : Says D R) : R.off = D.off ∧ (if 1 < R.fuse then R.fuse - 1 else R.fuse) = (lit D).fuse ∧ R.cnt + 1 = D.cnt + 1 := ⟨h.off, by unfold Go.Proofs.YtdgcninmpcmdcaaGreat.lit; rw [h.fuse], by rw [h.cnt]⟩
/-- An operation: refused alike, the power fails alike, and where it is done the rest is to be shown. -/
theorem Says.op (h : Says D R) (t : Bool) {f : DevS → DevS} {R' : RefC} (hok : reachE D t = 0 → D.fuse ≠ 1 → Says (f (Go.Proofs.YtdgcninmpcmdcaaGreat.lit D)) R') : Says (opD D t f) (if begE R t = 0 then R' else begR R t) := by
  by_cases hr : reachE D t = 0
  · by_cases hf : D.fuse = 1
    · rw [if_neg (by rw [h.beg, opE_fuse hr hf]; omega), opD_fuse hr hf]
      unfold begR
      rw [if_neg (by rw [h.reach, hr]; simp), if_pos (by rw [h.fuse]; exact hf)]
      exact ⟨h.n, h.wear, h.bad, rfl, rfl, h.cnt, h.med, h.buf⟩
    · rw [if_pos (by rw [h.beg, opE_ok hr hf]), opD_ok hr hf]
      exact hok hr hf
  · rw [if_neg (by rw [h.beg, opE_err hr]; exact hr), opD_err hr]
    unfold begR
    rw [if_pos (by rw [h.reach]; exact hr)]
    exact h
theorem reach_word {z : Int} {D : DevS} {t : Bool} (h : reachE D t = 0) : t = true := (reach_there h).1
theorem Says.store (h : Says D R) (z : Int) (v : Nat) : Says (opD D (isWord D z) (storeF z v)) (storeR R z v) := by
  unfold storeR
  rw [h.n]
  refine h.op (isWord D z) fun hr hf => ?_
  have ht : 0 ≤ z ∧ z < 8 * D.n := by have := (reach_there hr).1; unfold isWord at this; exact of_decide_eq_true this
  obtain ⟨i, rfl⟩ := Int.eq_ofNat_of_zero_le ht.1
  refine ⟨h.n, h.wear, h.bad, h.lit.2.1, h.off, h.lit.2.2, fun k hk => ?_, fun k hk => ?_⟩
  · show (storeW R.ws ((i : Int).toNat) v k).m = D.med k
    rw [Int.toNat_natCast, ← h.med k hk]
    unfold storeW updW
    by_cases e : k = i
    · subst e; rw [if_pos rfl]
    · rw [if_neg e]
  · show (updZ D.buf (i : Int) (some (v, false)) (k : Int) = none ∧ (storeW R.ws ((i : Int).toNat) v k).t = false) ∨ (updZ D.buf (i : Int) (some (v, false)) (k : Int) = some ((storeW R.ws ((i : Int).toNat) v k).v, (storeW R.ws ((i : Int).toNat) v k).f) ∧ (storeW R.ws ((i : Int).toNat) v k).t = true)
    rw [Int.toNat_natCast]
    unfold storeW updW updZ
    by_cases e : k = i
    · subst e; rw [if_pos rfl, if_pos rfl]; exact .inr ⟨rfl, rfl⟩
    · rw [if_neg e, if_neg (by omega)]; exact h.buf k hk
theorem Says.flush (h : Says D R) (z : Int) : Says (opD D (isLine D z) (flushF z)) (flushR R z) := by
  unfold flushR
  rw [h.n]
  refine h.op (isLine D z) fun hr hf => ?_
  have ht : 0 ≤ z ∧ z < D.n := by have := (reach_there hr).1; unfold isLine at this; exact of_decide_eq_true this
  obtain ⟨l, rfl⟩ := Int.eq_ofNat_of_zero_le ht.1
  refine ⟨h.n, h.wear, h.bad, h.lit.2.1, h.off, h.lit.2.2, fun k hk => ?_, fun k hk => ?_⟩
  · show (flW R.ws ((l : Int).toNat) 8 k).m = D.med k
    rw [Int.toNat_natCast, ← h.med k hk]
    unfold flW
    split <;> rfl
  · show (flF D.buf ((l : Int).toNat) 8 (k : Int) = none ∧ (flW R.ws ((l : Int).toNat) 8 k).t = false) ∨ (flF D.buf ((l : Int).toNat) 8 (k : Int) = some ((flW R.ws ((l : Int).toNat) 8 k).v, (flW R.ws ((l : Int).toNat) 8 k).f) ∧ (flW R.ws ((l : Int).toNat) 8 k).t = true)
    rw [Int.toNat_natCast]
    unfold flW flF
    by_cases e : 8 * l ≤ k ∧ k < 8 * l + 8
    · rw [if_pos e, if_pos (show 8 * (l : Int) ≤ (k : Int) ∧ (k : Int) < 8 * l + ((8 : Nat) : Int) by omega)]
      rcases h.buf k hk with ⟨h1, h2⟩ | ⟨h1, h2⟩
      · rw [h1]; exact .inl ⟨rfl, h2⟩
      · rw [h1]; exact .inr ⟨by rw [h2]; rfl, h2⟩
    · rw [if_neg e, if_neg (show ¬ (8 * (l : Int) ≤ (k : Int) ∧ (k : Int) < 8 * l + ((8 : Nat) : Int)) by omega)]
      exact h.buf k hk
theorem linesOf_congr {S S' : Nat → Bool} {n l : Nat} (h : ∀ i, i < 8 * n → S i = S' i) (hl : l < n) : linesOf S l = linesOf S' l := by
  rw [Bool.eq_iff_iff, linesOf_iff, linesOf_iff]
  constructor
  · rintro ⟨i, h1, h2⟩; exact ⟨i, by rw [← h i (by omega)]; exact h1, h2⟩
  · rintro ⟨i, h1, h2⟩; exact ⟨i, by rw [h i (by omega)]; exact h1, h2⟩
theorem Says.last (h : Says D R) {S S' : Nat → Bool} (hs : ∀ i, i < 8 * D.n → S i = S' i) (hb : ∀ i : Nat, S i = true → D.buf (i : Int) ≠ none) : Says (persistD D S) (lastR R S') := by
  refine ⟨h.n, fun l hl => ?_, h.bad, h.fuse, h.off, h.cnt, fun k hk => ?_, fun k hk => ?_⟩
  · show laT R S' R.n l = perWear D (linesOf S) l
    have hl : l < D.n := hl
    unfold laT perWear
    rw [← linesOf_congr hs hl, h.wear l hl, h.n]
    by_cases e : linesOf S l = true
    · rw [if_pos ⟨hl, e⟩, if_pos e]
    · rw [if_neg (fun q => e q.2), if_neg e]
  · show (laW R S' (8 * R.n) k).m = perMed D S k
    have hk : k < 8 * D.n := hk
    unfold laW perMed
    rw [← hs k hk, h.n]
    by_cases e : S k = true
    · rw [if_pos ⟨hk, e⟩]
      show (if R.bad (k / 8) = true then (R.ws k).m else (R.ws k).v) = _
      rw [h.bad (k / 8) (by omega)]
      rcases h.buf k hk with ⟨h1, _⟩ | ⟨h1, _⟩
      · exact absurd h1 (hb k e)
      · rw [h1]
        cases hbd : D.bad (k / 8) with
        | true => rw [if_pos rfl, if_neg (fun q => by cases q.2)]; exact h.med k hk
        | false => rw [if_neg (by simp), if_pos ⟨e, rfl⟩]; rfl
    · rw [if_neg (fun q => e q.2), if_neg (fun q => e q.1)]
      exact h.med k hk
  · show (perBuf D S (k : Int) = none ∧ (laW R S' (8 * R.n) k).t = false) ∨ (perBuf D S (k : Int) = some ((laW R S' (8 * R.n) k).v, (laW R S' (8 * R.n) k).f) ∧ (laW R S' (8 * R.n) k).t = true)
    have hk : k < 8 * D.n := hk
    unfold laW perBuf
    rw [← hs k hk, h.n, Int.toNat_natCast]
    by_cases e : S k = true
    · rw [if_pos ⟨by omega, e⟩, if_pos ⟨hk, e⟩]
      exact .inl ⟨rfl, rfl⟩
    · rw [if_neg (fun q => e q.2), if_neg (fun q => e q.2)]
      exact h.buf k hk
theorem Says.litS (h : Says D R) : Says (Go.Proofs.YtdgcninmpcmdcaaGreat.lit D) { R with fuse := if 1 < R.fuse then R.fuse - 1 else R.fuse } := ⟨h.n, h.wear, h.bad, h.lit.2.1, h.off, h.cnt, h.med, h.buf⟩
theorem Says.fence (h : Says D R) : Says (opD D true fenceF) (fenceR R) := by
  unfold fenceR
  refine h.op true fun hr hf => ?_
  have q := h.litS.last (S := fluS D) (S' := fenS R) (fun i hi => by
    have hi : i < 8 * D.n := hi
    unfold fluS fenS
    rcases h.buf i hi with ⟨h1, h2⟩ | ⟨h1, h2⟩
    · rw [h1, h2]; rfl
    · rw [h1, h2, Bool.true_and]; rfl) (fun i e q => by
    have q : D.buf (i : Int) = none := q
    unfold fluS at e
    rw [q] at e
    cases e)
  exact ⟨q.n, q.wear, q.bad, q.fuse, q.off, h.lit.2.2, q.med, q.buf⟩
theorem Says.boot (h : Says D R) (L : List Nat) (kp : Nat → Bool) (hL : ∀ x ∈ L, D.buf (x : Int) ≠ none) : Says (bootD D L kp) (bootR R L kp) := by
  have q := h.last (S := bootS L kp) (S' := bootS L kp) (fun _ _ => rfl) (fun i e => by
    by_cases c : i ∈ L
    · exact hL i c
    · rw [bootS_no c] at e; cases e)
  refine ⟨q.n, q.wear, q.bad, rfl, rfl, q.cnt, fun k hk => ?_, fun k hk => ?_⟩
  · show (clrW (lastR R (bootS L kp)).ws (8 * R.n) k).m = _
    unfold clrW
    have e := q.med k hk
    split
    · exact e
    · exact e
  · refine .inl ⟨rfl, ?_⟩
    show (clrW (lastR R (bootS L kp)).ws (8 * R.n) k).t = false
    have hk : k < 8 * D.n := hk
    unfold clrW
    rw [h.n, if_pos hk]
theorem Says.pend (h : Says D R) (hs : ∀ z, D.buf z ≠ none → 0 ≤ z ∧ z < 8 * D.n) {L : List Nat} (hL : IsPend D L) (x : Nat) (hx : x < 8 * R.n) : x ∈ L ↔ (R.ws x).t = true := by
  rw [hL.2 x]
  rw [h.n] at hx
  rcases h.buf x hx with ⟨h1, h2⟩ | ⟨h1, h2⟩
  · rw [h1, h2]; simp
  · rw [h1, h2]; simp
theorem sorted_unique : ∀ (L M : List Nat), L.Pairwise (· < ·) → M.Pairwise (· < ·) → (∀ x, x ∈ L ↔ x ∈ M) → L = M
  | [], [], _, _, _ => rfl
  | [], y :: M, _, _, h => by have := (h y).2 (by simp); cases this
  | x :: L, [], _, _, h => by have := (h x).1 (by simp); cases this
  | x :: L, y :: M, hL, hM, h => by
    rw [List.pairwise_cons] at hL hM
    have e : x = y := by
      have h1 := (h x).1 (by simp)
      have h2 := (h y).2 (by simp)
      rcases List.mem_cons.1 h1 with q | q
      · exact q
      · rcases List.mem_cons.1 h2 with q2 | q2
        · exact q2.symm
        · have := hM.1 x q; have := hL.1 y q2; omega
    subst e
    congr 1
    refine sorted_unique L M hL.2 hM.2 fun z => ?_
    constructor
    · intro hz
      have := hL.1 z hz
      rcases List.mem_cons.1 ((h z).1 (by simp [hz])) with q | q
      · omega
      · exact q
    · intro hz
      have := hM.1 z hz
      rcases List.mem_cons.1 ((h z).2 (by simp [hz])) with q | q
      · omega
      · exact q
theorem Says.new (n : Nat) : Says (newD n) (newRC n) := ⟨rfl, fun _ _ => rfl, fun _ _ => rfl, rfl, rfl, rfl, fun _ _ => rfl, fun _ _ => .inl ⟨rfl, rfl⟩⟩
end

/-! ### Calls -/
section
variable {r : RefA} {D : DevS} {w : World}
theorem ref_store (z : Int) (v : Nat) (h : RefIs w r D) (hc : D.cnt < 4611686018427387904) (hf : 0 ≤ D.fuse ∧ D.fuse ≤ 9223372036854775807) :
    Calls Tryz.prog 127 #[.pointer (some ⟨r.rd, 0, none⟩), .int .i64 z, .int .u64 v] w fun e w' => e = .returned (.int .i64 (opE D (isWord D z))) ∧ RefIs w' r (opD D (isWord D z) (storeF z v)) ∧ Gr r.all w w' := by
  obtain ⟨R, h1, h2⟩ := h
  refine (rstore_any r R z v w h1 (by rw [h2.cnt]; exact hc) (by rw [h2.fuse]; exact hf)).mono ?_
  rintro e w' ⟨rfl, q, g⟩
  refine ⟨?_, ⟨_, q, h2.store z v⟩, g⟩
  rw [h2.beg, h2.n]
  rfl
theorem ref_flush (z : Int) (h : RefIs w r D) (hc : D.cnt < 4611686018427387904) (hf : 0 ≤ D.fuse ∧ D.fuse ≤ 9223372036854775807) :
    Calls Tryz.prog 144 #[.pointer (some ⟨r.rd, 0, none⟩), .int .i64 z] w fun e w' => e = .returned (.int .i64 (opE D (isLine D z))) ∧ RefIs w' r (opD D (isLine D z) (flushF z)) ∧ Gr r.all w w' := by
  obtain ⟨R, h1, h2⟩ := h
  refine (rflush_any r R z w h1 (by rw [h2.cnt]; exact hc) (by rw [h2.fuse]; exact hf)).mono ?_
  rintro e w' ⟨rfl, q, g⟩
  refine ⟨?_, ⟨_, q, h2.flush z⟩, g⟩
  rw [h2.beg, h2.n]
  rfl
theorem ref_fence (h : RefIs w r D) (hc : D.cnt < 4611686018427387904) (hf : 0 ≤ D.fuse ∧ D.fuse ≤ 9223372036854775807) (hw : ∀ l, 0 ≤ D.wear l ∧ D.wear l < 4611686018427387904) :
    Calls Tryz.prog 145 #[.pointer (some ⟨r.rd, 0, none⟩)] w fun e w' => e = .returned (.int .i64 (opE D true)) ∧ RefIs w' r (opD D true fenceF) ∧ Gr r.all w w' := by
  obtain ⟨R, h1, h2⟩ := h
  refine (rfence_any r R w h1 (by rw [h2.cnt]; exact hc) (by rw [h2.fuse]; exact hf) (fun l hl => by rw [h2.wear l (by rw [← h2.n]; exact hl)]; exact hw l)).mono ?_
  rintro e w' ⟨rfl, q, g⟩
  exact ⟨by rw [h2.beg], ⟨_, q, h2.fence⟩, g⟩
theorem ref_boot (kv : Value) (kl : Nat) (kp : Nat → Bool) (L : List Nat) (h : RefIs w r D) (hk : KeepIs w kv kl kp) (hw : ∀ l, 0 ≤ D.wear l ∧ D.wear l < 4611686018427387904) (hs : ∀ z, D.buf z ≠ none → 0 ≤ z ∧ z < 8 * D.n) (hL : IsPend D L) :
    Calls Tryz.prog 19 #[.pointer (some ⟨r.rd, 0, none⟩), kv] w fun e w' => e = .returned (.tuple #[]) ∧ RefIs w' r (bootD D L kp) ∧ Gr r.all w w' := by
  obtain ⟨R, h1, h2⟩ := h
  refine (rboot_any r R kv kl kp L w h1 hk (fun l hl => by rw [h2.wear l (by rw [← h2.n]; exact hl)]; exact hw l) hL.1 (fun x hx => h2.pend hs hL x hx)).mono ?_
  rintro e w' ⟨rfl, q, g⟩
  exact ⟨rfl, ⟨_, q, h2.boot L kp fun x hx => (hL.2 x).1 hx⟩, g⟩
/-- What Load answers. -/
def loadP (D : DevS) (z : Int) : Int × Int := if reachE D (decide (0 ≤ z ∧ z < 8 * D.n)) ≠ 0 then (0, reachE D (decide (0 ≤ z ∧ z < 8 * D.n))) else ((loadV D z.toNat : Int), 0)
theorem ref_load (z : Int) (h : RefIs w r D) :
    Calls Tryz.prog 103 #[.pointer (some ⟨r.rd, 0, none⟩), .int .i64 z] w fun e w' => e = .returned (.tuple #[.int .u64 (loadP D z).1, .int .i64 (loadP D z).2]) ∧ w = w' := by
  obtain ⟨R, h1, h2⟩ := h
  have e : loadR R z = loadP D z := by
    cases ho : D.off with
    | true =>
      have l1 : loadR R z = (0, 6) := by unfold loadR; rw [h2.off, ho, if_pos rfl]
      have l2 : loadP D z = (0, 6) := by unfold loadP reachE; rw [ho]; rfl
      rw [l1, l2]
    | false =>
      by_cases hz : 0 ≤ z ∧ z < 8 * D.n
      · have l1 : loadR R z = (if (R.ws z.toNat).t then ((R.ws z.toNat).v : Int) else ((R.ws z.toNat).m : Int), 0) := by unfold loadR; rw [h2.off, ho, if_neg (by simp), if_pos (by rw [h2.n]; exact hz)]
        have l2 : loadP D z = ((loadV D z.toNat : Int), 0) := by unfold loadP reachE; rw [ho, decide_eq_true hz]; rfl
        rw [l1, l2]
        obtain ⟨i, rfl⟩ := Int.eq_ofNat_of_zero_le hz.1
        rw [Int.toNat_natCast]
        unfold loadV
        rcases h2.buf i (by omega) with ⟨q1, q2⟩ | ⟨q1, q2⟩
        · rw [q1, q2, h2.med i (by omega)]; rfl
        · rw [q1, q2]; rfl
      · have l1 : loadR R z = (0, 3) := by unfold loadR; rw [h2.off, ho, if_neg (by simp), if_neg (by rw [h2.n]; exact hz)]
        have l2 : loadP D z = (0, 3) := by unfold loadP reachE; rw [ho, decide_eq_false hz]; rfl
        rw [l1, l2]
  refine (rload_any r R z w h1).mono ?_
  rintro e' w' ⟨rfl, rfl⟩
  rw [e]
  exact ⟨rfl, rfl⟩
theorem dev_load (a : DevA) (z : Int) (h : DevIs w a D) :
    Calls Tryz.prog 108 #[.pointer (some ⟨a.bd, 0, none⟩), .int .i64 z] w fun e w' => e = .returned (.tuple #[.int .u64 (loadP D z).1, .int .i64 (loadP D z).2]) ∧ Gr [] w w' := by
  by_cases hr : reachE D (decide (0 ≤ z ∧ z < 8 * D.n)) = 0
  · have ht := reach_there hr
    have hz : 0 ≤ z ∧ z < 8 * D.n := of_decide_eq_true ht.1
    obtain ⟨i, rfl⟩ := Int.eq_ofNat_of_zero_le hz.1
    have e : loadP D (i : Int) = ((loadV D i : Int), 0) := by unfold loadP; rw [if_neg (fun q => q hr), Int.toNat_natCast]
    refine (load_ok a D i w h ht.2 (by omega)).mono ?_
    rintro e' w' ⟨rfl, g⟩
    rw [e]
    exact ⟨rfl, g⟩
  · have e : loadP D z = (0, reachE D (decide (0 ≤ z ∧ z < 8 * D.n))) := by unfold loadP; rw [if_pos hr]
    refine (load_err a D z w h hr).mono ?_
    rintro e' w' ⟨rfl, rfl⟩
    rw [e]
    exact ⟨rfl, Gr.refl _ _⟩
end

end Go.Proofs.YtdgcninmpcmdcaaGreat

/-
  Layer 3's laws: same.
-/
namespace Go.Proofs.YtdgcninmpcmdcaaGreat
open Go.RowKit

theorem calls_flipR {P : Program} {f : FuncId} {args : Array Value} {w : World} {v : Value} (h : Calls P f args w fun e w' => e = .returned v ∧ w = w') : Calls P f args w fun e w' => e = .returned v ∧ w' = w := h.mono fun _ _ q => ⟨q.1, q.2.symm⟩
/-- A row of words, however it lies. -/
theorem row_shape {w0 w1 : World} {v : Value} {L : List Nat} (h : w1.ownsRow w0.heap.size 3 1 v L.length (L.map iW)) :
    ∃ po pc, v = .slice po L.length pc ∧ ∀ (k x : Nat), L[k]? = some x → ∃ g, po = some ⟨g, 0, none⟩ ∧ g < w1.heap.size ∧ w1.cell? ⟨g, k, none⟩ = some (.int .i64 (x : Int)) := by
  have hcells := fun g (hg : v.ownBlock = some g) => h.cells hg
  rcases h.2 with ⟨rfl, h0⟩ | ⟨g, cap, cur, rfl, hg, hh, _⟩
  · exact ⟨none, 0, by rw [h0], fun k x hk => by have := (List.getElem?_eq_some_iff.1 hk).1; omega⟩
  · refine ⟨some ⟨g, 0, none⟩, cap, rfl, fun k x hk => ⟨g, rfl, (Array.getElem?_eq_some_iff.1 hh).1, ?_⟩⟩
    have := hcells g rfl k (iW x) (by rw [List.getElem?_map, hk]; rfl)
    rw [addp] at this
    exact this

end Go.Proofs.YtdgcninmpcmdcaaGreat

/-
  Layer 3's laws: does.
-/
namespace Go.Proofs.YtdgcninmpcmdcaaGreat
open Go.RowKit

/-- How much was done, how often a line was written, at most. -/
def Bnd (D : DevS) (c : Nat) : Prop := D.cnt ≤ c ∧ ∀ l, 0 ≤ D.wear l ∧ D.wear l ≤ (c : Int)
theorem Bnd.mono {D : DevS} {c : Nat} (h : Bnd D c) : Bnd D (c + 1) := ⟨by have := h.1; omega, fun l => by have := h.2 l; omega⟩
theorem Bnd.persist {D : DevS} {c : Nat} (h : Bnd D c) (S : Nat → Bool) (l : Nat) : 0 ≤ perWear D (linesOf S) l ∧ perWear D (linesOf S) l ≤ ((c + 1 : Nat) : Int) := by
  have := h.2 l
  unfold perWear
  have e : ∀ (p : Prop) [Decidable p], 0 ≤ (if p then D.wear l + 1 else D.wear l) ∧ (if p then D.wear l + 1 else D.wear l) ≤ ((c + 1 : Nat) : Int) := fun p _ => by split <;> omega
  exact e _
theorem Bnd.op {D : DevS} {c : Nat} (h : Bnd D c) (t : Bool) {f : DevS → DevS} (hf : Bnd (f (lit D)) (c + 1)) : Bnd (opD D t f) (c + 1) := by
  unfold opD
  split
  · exact h.mono
  · split
    · exact h.mono
    · exact hf
theorem Bnd.store {D : DevS} {c : Nat} (h : Bnd D c) (z : Int) (v : Nat) : Bnd (opD D (isWord D z) (storeF z v)) (c + 1) := h.op _ ⟨by have := h.1; show D.cnt + 1 ≤ c + 1; omega, fun l => h.mono.2 l⟩
theorem Bnd.flush {D : DevS} {c : Nat} (h : Bnd D c) (z : Int) : Bnd (opD D (isLine D z) (flushF z)) (c + 1) := h.op _ ⟨by have := h.1; show D.cnt + 1 ≤ c + 1; omega, fun l => h.mono.2 l⟩
theorem Bnd.fence {D : DevS} {c : Nat} (h : Bnd D c) : Bnd (opD D true fenceF) (c + 1) := h.op _ ⟨by have := h.1; show D.cnt + 1 ≤ c + 1; omega, fun l => Bnd.persist (D := lit D) h _ l⟩
theorem Bnd.boot {D : DevS} {c : Nat} (h : Bnd D c) (L : List Nat) (kp : Nat → Bool) : Bnd (bootD D L kp) (c + 1) := ⟨by have := h.1; show D.cnt ≤ c + 1; omega, fun l => h.persist _ l⟩
theorem opD_n (D : DevS) (t : Bool) (f : DevS → DevS) (hf : (f (lit D)).n = D.n) : (opD D t f).n = D.n := by
  unfold opD
  split
  · rfl
  · split
    · rfl
    · exact hf
theorem max0r (P : Program) (ts : Array TypeId) (t : TypeId) (y : Int) (w : World) : (Builtin.max_ ts t #[.int .i64 y, .int .i64 0]).run P w = .ok (.int .i64 (mx y)) w := by
  rw [run_max_int2]
  have : (if (0 : Int) > y then 0 else y) = mx y := by unfold mx; split <;> omega
  rw [this]
theorem minIsR (P : Program) (L m k : Nat) (kI : Int) (hk : kI = k) (h : m = min L k) (ts : Array TypeId) (t : TypeId) (w : World) : (Builtin.min_ ts t #[.int .i64 (L : Int), .int .i64 kI]).run P w = .ok (.int .i64 (m : Int)) w := by
  subst hk
  rw [run_min_int2]
  have : (if (k : Int) < (L : Int) then (k : Int) else (L : Int)) = (m : Int) := by split <;> omega
  rw [this]
theorem cell_gr {W W' : World} {bs : List Nat} {b o : Nat} (g : Gr bs W W') (hb : b < W.heap.size) (hn : b ∉ bs) : W'.cell? ⟨b, o, none⟩ = W.cell? ⟨b, o, none⟩ := World.cell?_of_block (w := W) (g.block b hb hn)

/-- What an act leaves. -/
def DoesPost (a : DevA) (r : RefA) (D : DevS) (c : Nat) (w : World) (e : Ending) (w' : World) : Prop := ∃ D', e = .returned (.bool true) ∧ DevIs w' a D' ∧ RefIs w' r D' ∧ Gr (a.all ++ r.all) w w' ∧ D'.n = D.n ∧ Bnd D' (c + 1)

end Go.Proofs.YtdgcninmpcmdcaaGreat

/-
  PmPlays: its acts, opened; the walk.
-/
namespace Go.Proofs.YtdgcninmpcmdcaaGreat
open Go.ChangeShapes Go.WideShapes Go.ChangeAt Go.RowKit
set_option linter.unusedVariables false

structure ActS where
  d : Int
  z : Int
  v : Nat
  ao : Option Addr
  kl : Nat
  kc : Nat
  kp : Nat → Bool
def ActIs (w : World) (x : ActS) : Prop :=
  (-9223372036854775808 ≤ x.d ∧ x.d ≤ 9223372036854775807) ∧ (-9223372036854775808 ≤ x.z ∧ x.z ≤ 9223372036854775807) ∧ x.v < 18446744073709551616 ∧
  (∀ j, j < x.kl → ∃ b o, x.ao = some ⟨b, o, none⟩ ∧ b < w.heap.size ∧ w.cell? ⟨b, o + j, none⟩ = some (.bool (x.kp j))) ∧ x.kl ≤ x.kc ∧ x.kc ≤ maxLen ∧ (x.ao = none → x.kc = 0)
/-- The cells of an act from offset o on. -/
def ActAt (w : World) (b o : Nat) (x : ActS) : Prop :=
  w.cell? ⟨b, o, none⟩ = some (.int .i64 x.d) ∧ w.cell? ⟨b, o + 1, none⟩ = some (.int .i64 x.z) ∧ w.cell? ⟨b, o + 2, none⟩ = some (.int .u64 (x.v : Int)) ∧ w.cell? ⟨b, o + 3, none⟩ = some (.slice x.ao x.kl x.kc)
def SlA (w : World) (v : Value) : Prop :=
  (∃ ao cap, v = .slice ao 0 cap ∧ (ao = none → cap = 0) ∧ cap ≤ maxLen) ∨
  ∃ b off n cap, ∃ xs : Nat → ActS, v = .slice (some ⟨b, off, none⟩) n cap ∧ 0 < n ∧ n ≤ cap ∧ cap ≤ maxLen ∧ b < w.heap.size ∧ ∀ i, i < n → ActIs w (xs i) ∧ ActAt w b (off + i * 4) (xs i)

theorem open_act {H : Type} {enc : TypeId × Value → H} {P : Program} {w : World} {base : Nat} {held : Bool} {e eb : TypeId} {fs : Array Field} {f0 f1 f2 f3 : Field} {cs : List Value} {x : DataW H × List MemPlace} {fuel : Nat}
    (he : P.underlying e = some (.struct fs)) (h0 : fs[0]? = some f0) (h1 : fs[1]? = some f1) (h2 : fs[2]? = some f2) (h3 : fs[3]? = some f3) (o0 : f0.offset = 0) (o1 : f1.offset = 1) (o2 : f2.offset = 2) (o3 : f3.offset = 3)
    (t0 : P.underlying f0.type = some (.int .i64)) (t1 : P.underlying f1.type = some (.int .i64)) (t2 : P.underlying f2.type = some (.int .u64)) (t3 : P.underlying f3.type = some (.slice eb)) (tb : P.underlying eb = some .bool)
    (c0 : P.cellsOf f0.type = 1) (c1 : P.cellsOf f1.type = 1) (c2 : P.cellsOf f2.type = 1) (c3 : P.cellsOf f3.type = 1) (cb : P.cellsOf eb = 1)
    (h : DataW.trod enc P w base (fun _ => true) held fuel e cs = some x) :
    ∃ y : ActS, ActIs w y ∧ cs[0]? = some (.int .i64 y.d) ∧ cs[1]? = some (.int .i64 y.z) ∧ cs[2]? = some (.int .u64 (y.v : Int)) ∧ cs[3]? = some (.slice y.ao y.kl y.kc) := by
  obtain ⟨ys, n, _, _, hl, hy, hi⟩ := DataW.trod_struct he h
  have hsz : 3 < fs.size := (Array.getElem?_eq_some_iff.1 h3).1
  have key : ∀ (i : Nat) (f : Field) (v : Value), fs[i]? = some f → f.offset = i → P.cellsOf f.type = 1 → (cs.drop i).take 1 = [v] → cs[i]? = some v := fun i f v _ _ _ hd => by
    have : (List.take 1 (List.drop i cs))[0]? = some v := by rw [hd]; rfl
    rw [List.getElem?_take_of_lt (by omega), List.getElem?_drop, Nat.add_zero] at this
    exact this
  have r0 := hi 0 f0 h0
  have r1 := hi 1 f1 h1
  have r2 := hi 2 f2 h2
  have r3 := hi 3 f3 h3
  rw [o0, c0, List.getElem?_eq_getElem (by omega)] at r0
  rw [o1, c1, List.getElem?_eq_getElem (by omega)] at r1
  rw [o2, c2, List.getElem?_eq_getElem (by omega)] at r2
  rw [o3, c3, List.getElem?_eq_getElem (by omega)] at r3
  obtain ⟨d, hd, _, wd⟩ := DataW.trod_int t0 r0
  obtain ⟨z, hz, _, wz⟩ := DataW.trod_int t1 r1
  obtain ⟨v, hv, _, wv⟩ := DataW.trod_int t2 r2
  obtain ⟨kv, kl, kp, hk, ao, kc, rfl, q1, q2, q3, q4, q5, q6⟩ := open_bl_raw t3 tb cb r3
  obtain ⟨u, rfl, hu⟩ := natU64 wv
  exact ⟨⟨d, z, u, ao, kl, kc, kp⟩, ⟨bounds_i64 wd, bounds_i64 wz, hu, q1, q4, q5, q6⟩, key 0 f0 _ h0 o0 c0 hd, key 1 f1 _ h1 o1 c1 hz, key 2 f2 _ h2 o2 c2 hv, key 3 f3 _ h3 o3 c3 hk⟩

theorem open_acts {H : Type} {enc : TypeId × Value → H} {P : Program} {w : World} {base : Nat} {held : Bool} {t e eb : TypeId} {fs : Array Field} {f0 f1 f2 f3 : Field} {v : Value} {b0 : Nat} {d : DataW H} {p : List MemPlace}
    (ht : P.underlying t = some (.slice e)) (he : P.underlying e = some (.struct fs)) (h0 : fs[0]? = some f0) (h1 : fs[1]? = some f1) (h2 : fs[2]? = some f2) (h3 : fs[3]? = some f3) (o0 : f0.offset = 0) (o1 : f1.offset = 1) (o2 : f2.offset = 2) (o3 : f3.offset = 3)
    (t0 : P.underlying f0.type = some (.int .i64)) (t1 : P.underlying f1.type = some (.int .i64)) (t2 : P.underlying f2.type = some (.int .u64)) (t3 : P.underlying f3.type = some (.slice eb)) (tb : P.underlying eb = some .bool)
    (c0 : P.cellsOf f0.type = 1) (c1 : P.cellsOf f1.type = 1) (c2 : P.cellsOf f2.type = 1) (c3 : P.cellsOf f3.type = 1) (cb : P.cellsOf eb = 1) (ce : P.cellsOf e = 4)
    (hv : Value.okWide P w .any b0 t v) (h : DataW.Trod enc P w base (fun _ => true) held t v d p) : SlA w v := by
  obtain ⟨a0, len, cap, rfl⟩ := okWide_slice ht hv
  obtain ⟨fuel, hf⟩ := h
  rcases DataW.trod_slice ht hf with ⟨hcs, _⟩ | ⟨a, len', cap', elems, rest, n, _, hcs, _, hb, hl, hm, hlen, hel, _, _⟩
  · simp [Value.cells] at hcs
    obtain ⟨rfl, rfl, rfl⟩ := hcs
    exact .inl ⟨none, 0, rfl, fun _ => rfl, Nat.zero_le _⟩
  · simp [Value.cells] at hcs
    obtain ⟨rfl, rfl, rfl⟩ := hcs
    by_cases hz : len = 0
    · subst hz
      exact .inl ⟨some a, cap, rfl, (fun e => by cases e), hm⟩
    · have each : ∀ i, i < len → ∃ y : ActS, ActIs w y ∧ w.cell? ((a.add (i * 4)).add 0) = some (.int .i64 y.d) ∧ w.cell? ((a.add (i * 4)).add 1) = some (.int .i64 y.z) ∧ w.cell? ((a.add (i * 4)).add 2) = some (.int .u64 (y.v : Int)) ∧ w.cell? ((a.add (i * 4)).add 3) = some (.slice y.ao y.kl y.kc) := by
        intro i hi
        have q := hel i hi
        rw [ce, List.getElem?_eq_getElem (by omega), Option.bind_eq_some_iff] at q
        obtain ⟨cs', hc', hy⟩ := q
        obtain ⟨_, _, hc2⟩ := World.cells?_some hc'
        obtain ⟨y, hy1, e0, e1, e2, e3⟩ := open_act he h0 h1 h2 h3 o0 o1 o2 o3 t0 t1 t2 t3 tb c0 c1 c2 c3 cb hy
        exact ⟨y, hy1, (hc2 0 (by omega)).trans e0, (hc2 1 (by omega)).trans e1, (hc2 2 (by omega)).trans e2, (hc2 3 (by omega)).trans e3⟩
      obtain ⟨b, off, spot⟩ := a
      have hspot : spot = none := by
        obtain ⟨y, _, e0, _⟩ := each 0 (by omega)
        simpa [Addr.add] using World.cell?_spot e0
      subst hspot
      have hcl : ∀ i k, ((⟨b, off, none⟩ : Addr).add (i * 4)).add k = ⟨b, off + i * 4 + k, none⟩ := fun i k => by rw [add_plain, add_plain]
      have each2 : ∀ i, i < len → ∃ y : ActS, ActIs w y ∧ ActAt w b (off + i * 4) y := fun i hi => by
        obtain ⟨y, y1, e0, e1, e2, e3⟩ := each i hi
        rw [hcl] at e0 e1 e2 e3
        exact ⟨y, y1, e0, e1, e2, e3⟩
      refine .inr ⟨b, off, len, cap, fun i => if hi : i < len then Classical.choose (each2 i hi) else ⟨0, 0, 0, none, 0, 0, fun _ => false⟩, rfl, by omega, hl, hm, ?_, fun i hi => ?_⟩
      · obtain ⟨y, _, e0, _⟩ := each2 0 (by omega)
        exact block_lt_of_cell e0
      · dsimp only
        rw [dif_pos hi]
        exact Classical.choose_spec (each2 i hi)

end Go.Proofs.YtdgcninmpcmdcaaGreat

/-
  The reference of layer 4: last, PutWord, Put.
-/
namespace Go.Proofs.YtdgcninmpcmdcaaGreat
open Go.RowKit
set_option linter.unusedVariables false

theorem RefIs.c0 {W : World} {r : RefA} {D : DevS} (h : RefIs W r D) : W.cell? ⟨r.rd, 0, none⟩ = some (.slice (some ⟨r.rw, 0, none⟩) (8 * D.n) (8 * D.n)) := by
  obtain ⟨R, h1, h2⟩ := h
  rw [← h2.n]; exact h1.c0
theorem RefIs.c1 {W : World} {r : RefA} {D : DevS} (h : RefIs W r D) : W.cell? ⟨r.rd, 1, none⟩ = some (.slice (some ⟨r.rr, 0, none⟩) D.n D.n) := by
  obtain ⟨R, h1, h2⟩ := h
  rw [← h2.n]; exact h1.c1
theorem RefIs.c4 {W : World} {r : RefA} {D : DevS} (h : RefIs W r D) : W.cell? ⟨r.rd, 4, none⟩ = some (.bool D.off) := by
  obtain ⟨R, h1, h2⟩ := h
  rw [← h2.off]; exact h1.c4
theorem RefIs.c5 {W : World} {r : RefA} {D : DevS} (h : RefIs W r D) : W.cell? ⟨r.rd, 5, none⟩ = some (.int .i64 (D.cnt : Int)) := by
  obtain ⟨R, h1, h2⟩ := h
  rw [← h2.cnt]; exact h1.c5
theorem RefIs.hi {W : World} {r : RefA} {D : DevS} (h : RefIs W r D) : D.n ≤ 8192 := by
  obtain ⟨R, h1, h2⟩ := h
  rw [← h2.n]; exact h1.hi
/-- Bounds that each step keeps. -/
def Fu (D : DevS) (c : Nat) : Prop := Bd D c ∧ 0 ≤ D.fuse ∧ D.fuse ≤ 9223372036854775807
theorem fuse_op {D : DevS} (h : 0 ≤ D.fuse ∧ D.fuse ≤ 9223372036854775807) (t : Bool) {f : DevS → DevS} (hf : (f (lit D)).fuse = (lit D).fuse) : 0 ≤ (opD D t f).fuse ∧ (opD D t f).fuse ≤ 9223372036854775807 := by
  unfold opD
  split
  · exact h
  · split
    · exact ⟨Int.le_refl _, by show (0 : Int) ≤ _; omega⟩
    · rw [hf]
      show 0 ≤ (if 1 < D.fuse then D.fuse - 1 else D.fuse) ∧ (if 1 < D.fuse then D.fuse - 1 else D.fuse) ≤ 9223372036854775807
      split <;> omega
theorem Fu.store {D : DevS} {c : Nat} (h : Fu D c) (z : Int) (v : Nat) (t : Bool) : Fu (opD D t (storeF z v)) (c + 1) := ⟨h.1.store z v t, fuse_op h.2 t rfl⟩
theorem Fu.flush {D : DevS} {c : Nat} (h : Fu D c) (z : Int) (t : Bool) : Fu (opD D t (flushF z)) (c + 1) := ⟨h.1.flush z t, fuse_op h.2 t rfl⟩
theorem Fu.fence {D : DevS} {c : Nat} (h : Fu D c) (t : Bool) : Fu (opD D t fenceF) (c + 1) := ⟨h.1.fence t, fuse_op h.2 t rfl⟩
theorem Fu.mono {D : DevS} {c c' : Nat} (h : Fu D c) (hc : c ≤ c') : Fu D c' := ⟨h.1.mono hc, h.2⟩
theorem opD_nn (D : DevS) (t : Bool) (f : DevS → DevS) (hf : (f (lit D)).n = D.n) : (opD D t f).n = D.n := opD_n D t f hf

set_option maxRecDepth 20000 in
theorem rlast4_any (r : RefA) (D : DevS) (l c : Nat) (w : World) (h : RefIs w r D) (hb : Fu D c) (hc : c < 1000000) :
    Calls Tryz.prog 128 #[.pointer (some ⟨r.rd, 0, none⟩), .int .i64 (l : Int)] w fun e w' => e = .returned (.int .i64 (finS l D).1) ∧ RefIs w' r (finS l D).2 ∧ Gr r.all w w' := by
  have HS := Lib.hid (ref_flush (l : Int) h (by have := hb.1.1; omega) hb.2)
  have HB := Lib.hid hb
  obtain ⟨T, hT⟩ : ∃ T, finS l D = T := ⟨_, rfl⟩
  rw [hT]
  unfold finS at hT
  clear h hb
  by_cases he : opE D (isLine D (l : Int)) = 0
  · rw [he] at HS
    have HT := Lib.hid (hT.symm.trans (if_pos he))
    clear he hT
    go_enter Tryz.func128, Tryz.ntmps128
    go_wp2_with fail
    refine HS.out.mono ?_
    rintro e w3 ⟨rfl, r3, g3⟩
    have b3 := HB.out.flush (l : Int) (isLine D (l : Int))
    have HS := Lib.hid (ref_fence r3 (by have := b3.1.1; omega) b3.2 (fun x => by have := b3.1.2 x; omega))
    have HN := Lib.hid g3
    clear r3 g3 b3
    go_wp2_with fail
    refine HS.out.mono ?_
    rintro e w4 ⟨rfl, r4, g4⟩
    have HN := Lib.hid (And.intro r4 (HN.out.trans g4))
    clear r4 g4 HS
    go_wp2_with fail
    go_ret
    rw [HT.out]
    exact ⟨rfl, HN.out.1, HN.out.2⟩
  · have HT := Lib.hid (hT.symm.trans (if_neg he))
    obtain ⟨ev, hev⟩ : ∃ ev, opE D (isLine D (l : Int)) = ev := ⟨_, rfl⟩
    rw [hev] at he HS HT
    have he2 : (ev == 0) = false := by simpa using he
    clear he hev hT
    go_enter Tryz.func128, Tryz.ntmps128
    go_wp2_with fail
    refine HS.out.mono ?_
    rintro e w3 ⟨rfl, r3, g3⟩
    have HN := Lib.hid (And.intro r3 g3)
    clear r3 g3 HS
    go_wp2_with fail
    go_ret
    rw [HT.out]
    exact ⟨rfl, HN.out.1, HN.out.2⟩

set_option maxRecDepth 20000 in
set_option maxHeartbeats 2000000 in
theorem rputword_any (r : RefA) (D : DevS) (z k : Int) (v c : Nat) (w : World) (h : RefIs w r D) (hb : Fu D c) (hc : c < 900000) :
    Calls Tryz.prog 98 #[.pointer (some ⟨r.rd, 0, none⟩), .int .i64 z, .int .i64 k, .int .u64 (v : Int)] w fun e w' => e = .returned (.int .i64 (pwE D z k v).1) ∧ RefIs w' r (pwE D z k v).2 ∧ Gr r.all w w' := by
  have HD := Lib.hid h
  have HB := Lib.hid hb
  by_cases hk0 : k < 0
  · have HE := Lib.hid (show pwE D z k v = (2, D) by unfold pwE; rw [if_pos (.inl hk0)])
    have hd : decide (k < 0) = true := by simpa using hk0
    clear h hb hk0
    go_enter Tryz.func98, Tryz.ntmps98
    go_wp2_with fail
    go_ret
    rw [HE.out]
    exact ⟨rfl, HD.out, Gr.refl _ _⟩
  · have hd : decide (k < 0) = false := by simpa using hk0
    by_cases hk7 : 7 < k
    · have HE := Lib.hid (show pwE D z k v = (2, D) by unfold pwE; rw [if_pos (.inr hk7)])
      have hd2 : decide ((7 : Int) < k) = true := by simpa using hk7
      clear h hb hk0 hk7
      go_enter Tryz.func98, Tryz.ntmps98
      go_wp2_with fail
      go_ret
      rw [HE.out]
      exact ⟨rfl, HD.out, Gr.refl _ _⟩
    · have hd2 : decide ((7 : Int) < k) = false := by simpa using hk7
      have c1 := h.c1
      have hn := h.hi
      cases hl : isLine D z with
      | false =>
        have HE := Lib.hid (show pwE D z k v = (3, D) by unfold pwE; rw [if_neg (by omega), hl]; rfl)
        have hz : ¬ (0 ≤ z ∧ z < D.n) := by unfold isLine at hl; exact of_decide_eq_false hl
        have hds : decide (z < 0) = true ∨ (decide (z < 0) = false ∧ decide ((D.n : Int) ≤ z) = true) := by
          by_cases h0 : z < 0
          · exact .inl (by simpa using h0)
          · exact .inr ⟨by simpa using h0, by simp; omega⟩
        clear h hb hk0 hk7 hl hz
        generalize D.n = n at *
        rcases hds with d1 | ⟨d1, d2⟩
        all_goals
          go_enter Tryz.func98, Tryz.ntmps98
          go_wp2_with fail
          go_ret
          rw [HE.out]
          exact ⟨rfl, HD.out, Gr.refl _ _⟩
      | true =>
        have hz : 0 ≤ z ∧ z < D.n := by unfold isLine at hl; exact of_decide_eq_true hl
        obtain ⟨l, rfl⟩ := Int.eq_ofNat_of_zero_le hz.1
        obtain ⟨q, rfl⟩ := Int.eq_ofNat_of_zero_le (show 0 ≤ k by omega)
        obtain ⟨T, hT⟩ : ∃ T, stos l q (fun _ => v) 1 0 D = T := ⟨_, rfl⟩
        have HE := Lib.hid (show pwE D (l : Int) (q : Int) v = T by unfold pwE; rw [if_neg (by omega), if_pos hl, Int.toNat_natCast, Int.toNat_natCast]; exact hT)
        have d1 : decide ((l : Int) < 0) = false := by simp
        have d2 : decide ((D.n : Int) ≤ (l : Int)) = false := by simp; omega
        have d2n : decide (D.n ≤ l) = false := by simp; omega
        have d2m : ¬ D.n ≤ l := by omega
        obtain ⟨x, hx⟩ : ∃ x : Nat, x = 8 * l + q + 0 := ⟨_, rfl⟩
        have hx2 : 8 * (l : Int) + (q : Int) = (x : Int) := by omega
        have hx3 : x ≤ 70000 := by omega
        have hl3 : l ≤ 8192 := by omega
        unfold stos at hT
        rw [← hx] at hT
        have HS := Lib.hid (ref_store (x : Int) v h (by have := hb.1.1; omega) hb.2)
        clear h hb hk0 hk7 hl hz hx
        generalize D.n = n at *
        by_cases he : opE D (isWord D (x : Int)) = 0
        · rw [he] at HS
          have HT := Lib.hid (hT.symm.trans (if_pos he))
          clear he hT
          go_enter Tryz.func98, Tryz.ntmps98
          go_wp2_with fail
          refine HS.out.mono ?_
          rintro e w3 ⟨rfl, r3, g3⟩
          have HL := Lib.hid (rlast4_any r _ l (c + 1) w3 r3 (HB.out.store (x : Int) v (isWord D (x : Int))) (by omega))
          have HN := Lib.hid g3
          clear r3 g3 HS
          go_wp2_with fail
          refine HL.out.mono ?_
          rintro e w4 ⟨rfl, r4, g4⟩
          have HN := Lib.hid (And.intro r4 (HN.out.trans g4))
          clear r4 g4
          go_wp2_with fail
          go_ret
          rw [HE.out, HT.out]
          exact ⟨rfl, HN.out.1, HN.out.2⟩
        · have HT := Lib.hid (hT.symm.trans (if_neg he))
          obtain ⟨ev, hev⟩ : ∃ ev, opE D (isWord D (x : Int)) = ev := ⟨_, rfl⟩
          rw [hev] at he HS HT
          have he2 : (ev == 0) = false := by simpa using he
          clear he hev hT
          go_enter Tryz.func98, Tryz.ntmps98
          go_wp2_with fail
          refine HS.out.mono ?_
          rintro e w3 ⟨rfl, r3, g3⟩
          have HN := Lib.hid (And.intro r3 g3)
          clear r3 g3 HS
          go_wp2_with fail
          go_ret
          rw [HE.out, HT.out]
          exact ⟨rfl, HN.out.1, HN.out.2⟩

/-! ### Put -/
theorem ext_word (s : ByteArray) (k : Nat) : getL ((s.extract (8 * k) (8 * k + 8)).data.toList.take 8) = wdL s.data.toList k := by
  rw [ext8, List.take_take, Nat.min_self]
  rfl
set_option maxRecDepth 20000 in
set_option maxHeartbeats 2000000 in
theorem rput4_any (r : RefA) (D : DevS) (z : Int) (s : ByteArray) (c : Nat) (w : World) (h : RefIs w r D) (hb : Fu D c) (hc : c < 900000) (hs : s.size ≤ maxLen) :
    Calls Tryz.prog 96 #[.pointer (some ⟨r.rd, 0, none⟩), .int .i64 z, .string s] w fun e w' => e = .returned (.int .i64 (putE D z s).1) ∧ RefIs w' r (putE D z s).2 ∧ Gr r.all w w' := by
  have HD := Lib.hid h
  have HB := Lib.hid hb
  have c1 := h.c1
  have hn := h.hi
  have HML := Lib.hid (show (8 : Nat) ≤ maxLen by unfold maxLen; omega)
  unfold maxLen at hs
  by_cases hsz : s.size = 64
  · cases hl : isLine D z with
    | false =>
      have HE := Lib.hid (show putE D z s = (3, D) by unfold putE; rw [if_neg (by simp [hsz]), hl]; rfl)
      have hz : ¬ (0 ≤ z ∧ z < D.n) := by unfold isLine at hl; exact of_decide_eq_false hl
      have hds : decide (z < 0) = true ∨ (decide (z < 0) = false ∧ decide ((D.n : Int) ≤ z) = true) := by
        by_cases h0 : z < 0
        · exact .inl (by simpa using h0)
        · exact .inr ⟨by simpa using h0, by simp; omega⟩
      clear h hb hl hz
      generalize D.n = n at *
      rcases hds with d1 | ⟨d1, d2⟩
      all_goals
        go_enter Tryz.func96, Tryz.ntmps96
        go_wp2_with fail
        go_ret
        rw [HE.out]
        exact ⟨rfl, HD.out, Gr.refl _ _⟩
    | true =>
      have hz : 0 ≤ z ∧ z < D.n := by unfold isLine at hl; exact of_decide_eq_true hl
      obtain ⟨l, rfl⟩ := Int.eq_ofNat_of_zero_le hz.1
      obtain ⟨T, hT⟩ : ∃ T, stos l 0 (wdL s.data.toList) 8 0 D = T := ⟨_, rfl⟩
      have HE := Lib.hid (show putE D (l : Int) s = T by unfold putE; rw [if_neg (by simp [hsz]), if_pos hl, Int.toNat_natCast]; exact hT)
      have d1 : decide ((l : Int) < 0) = false := by simp
      have d2 : decide ((D.n : Int) ≤ (l : Int)) = false := by simp; omega
      have d2n : decide (D.n ≤ l) = false := by simp; omega
      have d2m : ¬ D.n ≤ l := by omega
      have hl3 : l ≤ 8192 := by omega
      have HT := Lib.hid hT
      clear h hb hl hz hT
      generalize D.n = n at *
      go_enter Tryz.func96, Tryz.ntmps96
      go_wp2_with fail
      clear c1
      go_loopw [7] (fun u wr => ∃ (i : Nat) (D' : DevS), i ≤ 8 ∧ u = .int .i64 (i : Int) ∧ T = stos l 0 (wdL s.data.toList) (8 - i) i D' ∧ RefIs wr r D' ∧ Fu D' (c + i) ∧ Gr r.all w wr) (fun u _ => 8 - (intOf u).toNat)
      case atStart => exact ⟨0, D, by omega, rfl, HT.out.symm, HD.out, HB.out, Gr.refl _ _⟩
      case round =>
        clear HT HD HB
        obtain ⟨i, D', hi, rfl, hT, r2, b2, g2⟩ := hrel
        by_cases hlt : i < 8
        · have hd : decide ((i : Int) < 8) = true := by simp; omega
          obtain ⟨q, hq⟩ : ∃ q : Nat, q = 8 * i := ⟨_, rfl⟩
          have hqz : 8 * (i : Int) = (q : Int) := by omega
          have hq0 : (0 : Int) ≤ (q : Int) := by omega
          have hq1 : (q : Int) ≤ (q : Int) + 8 := by omega
          have hq2 : (q : Int) + 8 ≤ 64 := by omega
          have hn8 : ((q : Int) + 8).toNat = q + 8 := by omega
          have HGt := Lib.hid (rget_any (s.extract q (q + 8)) wr (by rw [ByteArray.size_extract]; exact Nat.le_trans (show min (q + 8) s.size - q ≤ 8 by omega) HML.out))
          rw [hq, ext_word s i] at HGt
          rw [← hq] at HGt
          obtain ⟨x, hx⟩ : ∃ x : Nat, x = 8 * l + 0 + i := ⟨_, rfl⟩
          have hx2 : 8 * (l : Int) + (i : Int) = (x : Int) := by omega
          rw [show 8 - i = (8 - i - 1) + 1 by omega] at hT
          unfold stos at hT
          rw [← hx] at hT
          obtain ⟨V, hV⟩ : ∃ V, wdL s.data.toList i = V := ⟨_, rfl⟩
          rw [hV] at hT HGt
          have HS := Lib.hid (fun W (g : Gr [] wr W) => ref_store (x : Int) V (r2.gr0 g) (by have := b2.1.1; omega) b2.2)
          have HT := Lib.hid hT
          have HB := Lib.hid (And.intro b2 g2)
          clear r2 b2 g2 hT hx hV hq
          by_cases he : opE D' (isWord D' (x : Int)) = 0
          · rw [he] at HS
            have HT := Lib.hid (HT.out.trans (if_pos he))
            clear he
            go_wp2_with fail
            refine HGt.out.mono ?_
            rintro e w3 ⟨rfl, rfl⟩
            have HQ := Lib.hid (Gr.refl [] wr)
            go_wp2_with fail
            refine (HS.out _ HQ.out).mono ?_
            rintro e w4 ⟨rfl, r4, g4⟩
            have HN := Lib.hid (And.intro r4 (And.intro (HB.out.1.store (x : Int) V (isWord D' (x : Int))) ((HB.out.2.next0 HQ.out).trans g4)))
            clear r4 g4 HS
            go_wp2_with fail
            go_roundw
            case rel => exact ⟨i + 1, _, by omega, by go_num, by rw [show 8 - (i + 1) = 8 - i - 1 by omega]; exact HT.out, HN.out.1, HN.out.2.1, HN.out.2.2⟩
            case measure => simp [intOf]; omega
          · have HT := Lib.hid (HT.out.trans (if_neg he))
            obtain ⟨ev, hev⟩ : ∃ ev, opE D' (isWord D' (x : Int)) = ev := ⟨_, rfl⟩
            rw [hev] at he HS HT
            have he2 : (ev == 0) = false := by simpa using he
            clear he hev
            go_wp2_with fail
            refine HGt.out.mono ?_
            rintro e w3 ⟨rfl, rfl⟩
            have HQ := Lib.hid (Gr.refl [] wr)
            go_wp2_with fail
            refine (HS.out _ HQ.out).mono ?_
            rintro e w4 ⟨rfl, r4, g4⟩
            have HN := Lib.hid (And.intro r4 ((HB.out.2.next0 HQ.out).trans g4))
            clear r4 g4 HS
            go_wp2_with fail
            go_ret
            rw [HE.out, HT.out]
            exact ⟨rfl, HN.out.1, HN.out.2⟩
        · obtain rfl : i = 8 := by omega
          have HT := Lib.hid (show T = finS l D' from hT)
          have HL := Lib.hid (rlast4_any r D' l (c + 8) wr r2 b2 (by omega))
          have HG := Lib.hid g2
          clear r2 b2 g2 hT
          rw [show ((8 : Nat) : Int) = 8 from rfl]
          go_wp2_with fail
          refine HL.out.mono ?_
          rintro e w4 ⟨rfl, r4, g4⟩
          have HN := Lib.hid (And.intro r4 (HG.out.trans g4))
          clear r4 g4
          go_wp2_with fail
          go_ret
          rw [HE.out, HT.out]
          exact ⟨rfl, HN.out.1, HN.out.2⟩
  · have HE := Lib.hid (show putE D z s = (2, D) by unfold putE; rw [if_pos hsz])
    have d3 : ((s.size : Int) != 64) = true := by simp; omega
    have d4 : ((s.size : Int) == 64) = false := by simp; omega
    clear h hb hsz
    go_enter Tryz.func96, Tryz.ntmps96
    go_wp2_with fail
    go_ret
    rw [HE.out]
    exact ⟨rfl, HD.out, Gr.refl _ _⟩

end Go.Proofs.YtdgcninmpcmdcaaGreat

/-
  The reference of layer 4: Get, Media.
-/
namespace Go.Proofs.YtdgcninmpcmdcaaGreat
open Go.RowKit
set_option linter.unusedVariables false

theorem cat_size (ns : List Nat) : (ByteArray.mk (catL ns).toArray).size = 8 * ns.length := by rw [size_is, catL_length]
theorem loadP_err {D : DevS} {z : Int} (h : reachE D (decide (0 ≤ z ∧ z < 8 * D.n)) ≠ 0) : loadP D z = (0, reachE D (decide (0 ≤ z ∧ z < 8 * D.n))) := by unfold loadP; rw [if_pos h]
theorem loadP_ok {D : DevS} {i : Nat} (ho : D.off = false) (hi : i < 8 * D.n) : loadP D (i : Int) = ((loadV D i : Int), 0) := by
  unfold loadP
  rw [if_neg (by rw [decide_eq_true (show 0 ≤ (i : Int) ∧ (i : Int) < 8 * D.n by omega)]; unfold reachE; rw [ho]; simp), Int.toNat_natCast]
set_option maxRecDepth 20000 in
set_option maxHeartbeats 2000000 in
theorem rget4_err (r : RefA) (D : DevS) (z : Int) (w : World) (h : RefIs w r D) (he : reachE D (isLine D z) ≠ 0) :
    Calls Tryz.prog 52 #[.pointer (some ⟨r.rd, 0, none⟩), .int .i64 z] w fun e w' => e = .returned (.tuple #[.string ⟨#[]⟩, .int .i64 (reachE D (isLine D z))]) ∧ Gr [] w w' := by
  have c4 := h.c4
  cases ho : D.off with
  | true =>
    have hr : ∀ t, reachE D t = 6 := fun t => by unfold reachE; rw [ho]; rfl
    have HL := Lib.hid (show ∀ x : Int, Calls Tryz.prog 103 #[.pointer (some ⟨r.rd, 0, none⟩), .int .i64 x] w fun e w' => e = .returned (.tuple #[.int .u64 0, .int .i64 6]) ∧ w = w' from fun x => by
      have q := ref_load x h
      rw [loadP_err (by rw [hr]; omega), hr] at q
      exact q)
    rw [hr]
    rw [ho] at c4
    clear h he ho hr
    go_enter Tryz.func52, Tryz.ntmps52
    go_wp2_with fail
    refine wp_loop_rounds 1 ?_
    rw [rounds_succ]
    go_wp2_with fail
    refine (HL.out _).mono ?_
    rintro e w' ⟨rfl, rfl⟩
    go_wp2_with fail
    go_ret2
    exact ⟨rfl, Gr.refl _ _⟩
  | false =>
    have hl : isLine D z = false := by
      cases hq : isLine D z with
      | false => rfl
      | true => rw [hq] at he; unfold reachE at he; rw [ho] at he; simp at he
    have hz : ¬ (0 ≤ z ∧ z < D.n) := by unfold isLine at hl; exact of_decide_eq_false hl
    have hr : reachE D (isLine D z) = 3 := by rw [hl]; unfold reachE; rw [ho]; rfl
    have c1 := h.c1
    have hn := h.hi
    have hds : decide (z < 0) = true ∨ (decide (z < 0) = false ∧ decide ((D.n : Int) ≤ z) = true) := by
      by_cases h0 : z < 0
      · exact .inl (by simpa using h0)
      · exact .inr ⟨by simpa using h0, by simp; omega⟩
    rw [hr]
    rw [ho] at c4
    clear h he ho hl hz hr
    generalize D.n = n at *
    rcases hds with d1 | ⟨d1, d2⟩
    all_goals
      go_enter Tryz.func52, Tryz.ntmps52
      go_wp2_with fail
      go_ret2
      exact ⟨rfl, Gr.refl _ _⟩

set_option maxRecDepth 20000 in
set_option maxHeartbeats 2000000 in
theorem rget4_yes (r : RefA) (D : DevS) (l : Nat) (w : World) (h : RefIs w r D) (hl : l < D.n) (ho : D.off = false) (hlt8 : ∀ i, loadV D i < 18446744073709551616) :
    Calls Tryz.prog 52 #[.pointer (some ⟨r.rd, 0, none⟩), .int .i64 (l : Int)] w fun e w' => e = .returned (.tuple #[.string ⟨(getT D l).toArray⟩, .int .i64 0]) ∧ Gr [] w w' := by
  have c4 := h.c4
  have c1 := h.c1
  have hn := h.hi
  rw [ho] at c4
  have d1 : decide ((l : Int) < 0) = false := by simp
  have d2n : decide (D.n ≤ l) = false := by simp; omega
  have d2m : ¬ D.n ≤ l := by omega
  have hl3 : l ≤ 8192 := by omega
  obtain ⟨F, hF⟩ : ∃ F : Nat → Nat, ∀ k, F k = loadV D (8 * l + k) := ⟨fun k => loadV D (8 * l + k), fun _ => rfl⟩
  obtain ⟨ns, hns⟩ : ∃ ns : List Nat, ns = [F 0, F 1, F 2, F 3, F 4, F 5, F 6, F 7] := ⟨_, rfl⟩
  have HL := Lib.hid (show ∀ W, Gr [] w W → ∀ k : Nat, k < 8 → Calls Tryz.prog 103 #[.pointer (some ⟨r.rd, 0, none⟩), .int .i64 ((8 * l + k : Nat) : Int)] W fun e w' => e = .returned (.tuple #[.int .u64 (F k : Int), .int .i64 0]) ∧ W = w' from fun W g k hk => by
    have q := ref_load ((8 * l + k : Nat) : Int) (h.gr0 g)
    rw [loadP_ok ho (by omega)] at q
    rw [hF]
    exact q)
  have HFB := Lib.hid (show ∀ k, F k < 18446744073709551616 from fun k => by rw [hF]; exact hlt8 _)
  have HNS := Lib.hid (show ∀ k, k < 8 → ns[k]? = some (F k) from fun k hk => by
    rw [hns]
    rcases (show k = 0 ∨ k = 1 ∨ k = 2 ∨ k = 3 ∨ k = 4 ∨ k = 5 ∨ k = 6 ∨ k = 7 by omega) with rfl | rfl | rfl | rfl | rfl | rfl | rfl | rfl <;> rfl)
  have HNL := Lib.hid (show ns.length = 8 by rw [hns]; rfl)
  have HT := Lib.hid (show getT D l = catL ns by rw [hns]; unfold getT; rw [hF, hF, hF, hF, hF, hF, hF, hF]; rfl)
  clear h hl ho hF hns hlt8
  generalize D.n = n at *
  go_enter Tryz.func52, Tryz.ntmps52
  go_wp2_with fail
  clear c1 c4 d2n d2m
  go_loopw [6, 7] (fun u z wr => ∃ (k : Nat) (S : ByteArray), k ≤ 8 ∧ u = .string S ∧ z = .int .i64 (k : Int) ∧ S = ⟨(catL (ns.take k)).toArray⟩ ∧ Gr [] w wr) (fun _ z _ => 8 - (intOf z).toNat)
  case atStart => exact ⟨0, ⟨#[]⟩, by omega, rfl, rfl, rfl, Gr.refl _ _⟩
  case round =>
    obtain ⟨k, S, hk, rfl, rfl, hS, g⟩ := hrel
    by_cases hlt : k < 8
    · have hd : decide ((k : Int) < 8) = true := by simp; omega
      have hss : S.size = 8 * k := by rw [hS, cat_size, List.length_take, HNL.out]; omega
      have hsl : S.size ≤ 64 := by omega
      obtain ⟨x, hx⟩ : ∃ x : Nat, x = 8 * l + k := ⟨_, rfl⟩
      have hx2 : 8 * (l : Int) + (k : Int) = (x : Int) := by omega
      have HLk := Lib.hid (HL.out wr g k hlt)
      rw [← hx] at HLk
      have HPk := Lib.hid (rput_any (F k) 8 wr (HFB.out k) (by omega) (by omega))
      rw [show clamp8 8 = 8 from rfl] at HPk
      have HCat := Lib.hid (show S ++ ByteArray.mk (putL (F k) 8).toArray = ByteArray.mk (catL (ns.take (k + 1))).toArray by rw [hS]; exact catL_str ns k (F k) (HNS.out k hlt))
      have HPS := Lib.hid (show (ByteArray.mk (putL (F k) 8).toArray).size = 8 by rw [size_is, putL_length])
      have HG := Lib.hid g
      clear g hS hx hss
      generalize F k = v at *
      go_wp2_with fail
      refine HLk.out.mono ?_
      rintro e w' ⟨rfl, rfl⟩
      go_wp2_with fail
      refine HPk.out.mono ?_
      rintro e w3 ⟨rfl, q3⟩
      have HG3 := Lib.hid (HG.out.nextB q3)
      clear q3
      obtain ⟨Y, hY⟩ : ∃ Y, ByteArray.mk (putL v 8).toArray = Y := ⟨_, rfl⟩
      have hYs : Y.size = 8 := by rw [← hY]; exact HPS.out
      rw [hY] at HCat
      rw [hY]
      clear hY
      go_wp2_with fail
      go_roundw
      case rel => exact ⟨k + 1, _, by omega, rfl, by go_num, HCat.out, HG3.out⟩
      case measure => simp [intOf]; omega
    · obtain rfl : k = 8 := by omega
      have HE := Lib.hid (show S = ⟨(getT D l).toArray⟩ by rw [hS, HT.out, List.take_of_length_le (by rw [HNL.out]; omega)])
      have HG := Lib.hid g
      clear hS g
      rw [show ((8 : Nat) : Int) = 8 from rfl]
      go_wp2_with fail
      go_ret2
      rw [HE.out]
      exact ⟨rfl, HG.out⟩

/-! ### Media -/
def medT (D : DevS) (l : Nat) : List UInt8 := catL [D.med (8 * l), D.med (8 * l + 1), D.med (8 * l + 2), D.med (8 * l + 3), D.med (8 * l + 4), D.med (8 * l + 5), D.med (8 * l + 6), D.med (8 * l + 7)]
theorem RefIs.wm {W : World} {r : RefA} {D : DevS} (h : RefIs W r D) {i : Nat} (hi : i < 8 * D.n) : W.cell? ⟨r.rw, i * 4, none⟩ = some (.int .u64 (D.med i : Int)) := by
  obtain ⟨R, h1, h2⟩ := h
  rw [← h2.med i hi]
  exact h1.wm (by rw [h2.n]; exact hi)
set_option maxRecDepth 20000 in
set_option maxHeartbeats 2000000 in
theorem rmedia4_any (r : RefA) (D : DevS) (l : Nat) (w : World) (h : RefIs w r D) (hl : l < D.n) (hlt8 : ∀ i, D.med i < 18446744073709551616) :
    Calls Tryz.prog 33 #[.pointer (some ⟨r.rd, 0, none⟩), .int .i64 (l : Int)] w fun e w' => e = .returned (.string ⟨(medT D l).toArray⟩) ∧ Gr [] w w' := by
  have hn := h.hi
  have hl3 : l ≤ 8192 := by omega
  obtain ⟨F, hF⟩ : ∃ F : Nat → Nat, ∀ k, F k = D.med (8 * l + k) := ⟨fun k => D.med (8 * l + k), fun _ => rfl⟩
  obtain ⟨ns, hns⟩ : ∃ ns : List Nat, ns = [F 0, F 1, F 2, F 3, F 4, F 5, F 6, F 7] := ⟨_, rfl⟩
  have HFB := Lib.hid (show ∀ k, F k < 18446744073709551616 from fun k => by rw [hF]; exact hlt8 _)
  have HNS := Lib.hid (show ∀ k, k < 8 → ns[k]? = some (F k) from fun k hk => by
    rw [hns]
    rcases (show k = 0 ∨ k = 1 ∨ k = 2 ∨ k = 3 ∨ k = 4 ∨ k = 5 ∨ k = 6 ∨ k = 7 by omega) with rfl | rfl | rfl | rfl | rfl | rfl | rfl | rfl <;> rfl)
  have HNL := Lib.hid (show ns.length = 8 by rw [hns]; rfl)
  have HT := Lib.hid (show medT D l = catL ns by rw [hns]; unfold medT; rw [hF, hF, hF, hF, hF, hF, hF, hF]; rfl)
  have H := Lib.hid (And.intro h hl)
  have HF := Lib.hid hF
  clear h hns hlt8 hF
  go_enter Tryz.func33, Tryz.ntmps33
  go_wp2_with fail
  go_loopw [5, 6] (fun u z wr => ∃ (k : Nat) (S : ByteArray), k ≤ 8 ∧ u = .string S ∧ z = .int .i64 (k : Int) ∧ S = ⟨(catL (ns.take k)).toArray⟩ ∧ Gr [] w wr) (fun _ z _ => 8 - (intOf z).toNat)
  case atStart => exact ⟨0, ⟨#[]⟩, by omega, rfl, rfl, rfl, Gr.refl _ _⟩
  case round =>
    obtain ⟨k, S, hk, rfl, rfl, hS, g⟩ := hrel
    by_cases hlt : k < 8
    · have hd : decide ((k : Int) < 8) = true := by simp; omega
      have hss : S.size = 8 * k := by rw [hS, cat_size, List.length_take, HNL.out]; omega
      have hsl : S.size ≤ 64 := by omega
      obtain ⟨x, hx⟩ : ∃ x : Nat, x = 8 * l + k := ⟨_, rfl⟩
      have hx2 : 8 * (l : Int) + (k : Int) = (x : Int) := by omega
      have hxn : x < 8 * D.n := by have := H.out.2; omega
      have hxi : (x : Int) < 8 * (D.n : Int) := by omega
      have hx0 : (0 : Int) ≤ (x : Int) := by omega
      have c0 := (H.out.1.gr0 g).c0
      have m0 := (H.out.1.gr0 g).wm hxn
      rw [show D.med x = F k by rw [HF.out, hx]] at m0
      have HPk := Lib.hid (rput_any (F k) 8 wr (HFB.out k) (by omega) (by omega))
      rw [show clamp8 8 = 8 from rfl] at HPk
      have HCat := Lib.hid (show S ++ ByteArray.mk (putL (F k) 8).toArray = ByteArray.mk (catL (ns.take (k + 1))).toArray by rw [hS]; exact catL_str ns k (F k) (HNS.out k hlt))
      have HPS := Lib.hid (show (ByteArray.mk (putL (F k) 8).toArray).size = 8 by rw [size_is, putL_length])
      have HG := Lib.hid g
      clear g hS hx hss
      generalize F k = v at *
      generalize D.n = n at *
      go_wp2_with fail
      refine HPk.out.mono ?_
      rintro e w3 ⟨rfl, q3⟩
      have HG3 := Lib.hid (HG.out.nextB q3)
      clear q3
      obtain ⟨Y, hY⟩ : ∃ Y, ByteArray.mk (putL v 8).toArray = Y := ⟨_, rfl⟩
      have hYs : Y.size = 8 := by rw [← hY]; exact HPS.out
      rw [hY] at HCat
      rw [hY]
      clear hY
      go_wp2_with fail
      go_roundw
      case rel => exact ⟨k + 1, _, by omega, rfl, by go_num, HCat.out, HG3.out⟩
      case measure => simp [intOf]; omega
    · obtain rfl : k = 8 := by omega
      have HE := Lib.hid (show S = ⟨(medT D l).toArray⟩ by rw [hS, HT.out, List.take_of_length_le (by rw [HNL.out]; omega)])
      have HG := Lib.hid g
      clear hS g
      rw [show ((8 : Nat) : Int) = 8 from rfl]
      go_wp2_with fail
      go_ret
      rw [HE.out]
      exact ⟨rfl, HG.out⟩

end Go.Proofs.YtdgcninmpcmdcaaGreat

/-
  LinePlays: its acts, opened; what its steps keep.
-/
namespace Go.Proofs.YtdgcninmpcmdcaaGreat
open Go.ChangeShapes Go.WideShapes Go.ChangeAt Go.RowKit
set_option linter.unusedVariables false

/-! ### What the steps keep -/
theorem finS_n (l : Nat) (D : DevS) : (finS l D).2.n = D.n := by
  unfold finS
  split
  · show (opD (opD D (isLine D l) (flushF l)) true fenceF).n = _
    rw [opD_n _ _ fenceF rfl, opD_n _ _ (flushF (l : Int)) rfl]
  · exact opD_n _ _ (flushF (l : Int)) rfl
theorem stos_n (l k : Nat) (f : Nat → Nat) : ∀ (m i : Nat) (D : DevS), (stos l k f m i D).2.n = D.n
  | 0, _, D => finS_n l D
  | m + 1, i, D => by
    unfold stos
    split
    · rw [stos_n l k f m (i + 1) _]
      exact opD_n _ _ (storeF _ _) rfl
    · exact opD_n _ _ (storeF _ _) rfl
theorem putE_n (D : DevS) (z : Int) (s : ByteArray) : (putE D z s).2.n = D.n := by
  unfold putE
  split
  · rfl
  · split
    · exact stos_n _ _ _ _ _ _
    · rfl
theorem pwE_n (D : DevS) (z k : Int) (v : Nat) : (pwE D z k v).2.n = D.n := by
  unfold pwE
  split
  · rfl
  · split
    · exact stos_n _ _ _ _ _ _
    · rfl
def medS (D : DevS) (l : Nat) : ByteArray := ⟨(medT D l).toArray⟩
theorem medS_size (D : DevS) (l : Nat) : (medS D l).size = 64 := by
  show (medT D l).toArray.size = 64
  rw [List.size_toArray]
  unfold medT
  rw [catL_length]
  rfl
theorem medS_word {D : DevS} (hm : ∀ i, D.med i < 18446744073709551616) (l k : Nat) (hk : k < 8) : wdL (medS D l).data.toList k = D.med (8 * l + k) := by
  show wdL (medT D l) k = _
  refine wdL_all _ (fun n hn => ?_) k _ ?_
  · simp only [List.mem_cons, List.not_mem_nil, or_false] at hn
    rcases hn with rfl | rfl | rfl | rfl | rfl | rfl | rfl | rfl <;> exact hm _
  · rcases (show k = 0 ∨ k = 1 ∨ k = 2 ∨ k = 3 ∨ k = 4 ∨ k = 5 ∨ k = 6 ∨ k = 7 by omega) with rfl | rfl | rfl | rfl | rfl | rfl | rfl | rfl <;> rfl
theorem took_med {D : DevS} (hm : ∀ i, D.med i < 18446744073709551616) {l : Nat} (hl : l < D.n) : tookB D (l : Int) (medS D l) = true :=
  took_of hl (medS_size D l) fun k hk => (medS_word hm l k hk).symm
theorem took_eq {D : DevS} (hm : ∀ i, D.med i < 18446744073709551616) {l : Nat} (hl : l < D.n) {F : ByteArray} (hF : F.size = 64) : tookB D (l : Int) F = ((medS D l).toList == F.toList) := by
  by_cases h : medS D l = F
  · rw [bs_beq_true h, ← h, took_med hm hl]
  · rw [bs_beq_false h]
    have : ∃ k, k < 8 ∧ D.med (8 * l + k) ≠ wdL F.data.toList k := by
      refine Classical.byContradiction fun hn => h (bytes_eq (medS_size D l) hF fun k hk => ?_)
      rw [medS_word hm l k hk]
      exact Classical.byContradiction fun hne => hn ⟨k, hk, hne⟩
    obtain ⟨k, hk, hne⟩ := this
    exact took_not hk hne

end Go.Proofs.YtdgcninmpcmdcaaGreat

/-
  Layer 5: the document's plans; the law's small.
-/
namespace Go.Proofs.YtdgcninmpcmdcaaGreat
open Go.RowKit

theorem rplan_cells (p : PlanZ) (w : World) : (w.alloc (Obj.cells #[.int .i64 p.a, .int .i64 p.l, .int .i64 p.s] 74)).cell? ⟨w.heap.size, 0, none⟩ = some (.int .i64 p.a) ∧ (w.alloc (Obj.cells #[.int .i64 p.a, .int .i64 p.l, .int .i64 p.s] 74)).cell? ⟨w.heap.size, 1, none⟩ = some (.int .i64 p.l) ∧ (w.alloc (Obj.cells #[.int .i64 p.a, .int .i64 p.l, .int .i64 p.s] 74)).cell? ⟨w.heap.size, 2, none⟩ = some (.int .i64 p.s) := (Holds.new w _ _).three
theorem below_rplan (p : PlanZ) (w : World) : Below w.heap.size w (w.alloc (Obj.cells #[.int .i64 p.a, .int .i64 p.l, .int .i64 p.s] 74)) := (Below.refl _ w).alloc (Nat.le_refl _) _
theorem rtable_any (p : PlanZ) (hp : okZ p = true) (w : World) : Calls Tryz.prog 71 #[planV p] w fun e w' => e = .returned (.int .i64 (tabZ p)) ∧ Below w.heap.size w w' := by
  obtain ⟨a, l, s⟩ := p
  obtain ⟨h1, h2, h3, h4, h5, h6⟩ := (okZ_iff _).1 hp
  simp only at h1 h2 h3 h4 h5 h6
  unfold planV tabZ
  simp only
  have HB := Lib.hid ((Below.refl w.heap.size w).alloc (Nat.le_refl _) (Obj.cells #[.int .i64 a, .int .i64 l, .int .i64 s] 74))
  clear hp
  go_enter Tryz.func71, Tryz.ntmps71
  go_wp2
  go_ret
  exact ⟨rfl, HB.out⟩
set_option maxHeartbeats 4000000 in
theorem rsize_any (p : PlanZ) (hp : okZ p = true) (w : World) : Calls Tryz.prog 25 #[planV p] w fun e w' => e = .returned (.int .i64 (sizeZ p)) ∧ Below w.heap.size w w' := by
  obtain ⟨c0, c1, c2⟩ := rplan_cells p w
  have HB := Lib.hid (below_rplan p w)
  obtain ⟨w1, hw1⟩ : ∃ w1, w1 = w.alloc (Obj.cells #[.int .i64 p.a, .int .i64 p.l, .int .i64 p.s] 74) := ⟨_, rfl⟩
  have hl : w.heap.size < w1.heap.size := by rw [hw1, World.size_alloc]; omega
  have hs : sizeZ p = tabZ p + p.l + p.s := by unfold sizeZ; rw [if_pos hp]
  obtain ⟨h1, h2, h3, h4, h5, h6⟩ := (okZ_iff p).1 hp
  have HT := Lib.hid (fun W => show Calls Tryz.prog 71 #[.agg #[.int .i64 p.a, .int .i64 p.l, .int .i64 p.s]] W _ from rtable_any p hp W)
  have ht : 0 ≤ tabZ p ∧ tabZ p ≤ 8 := by unfold tabZ; omega
  obtain ⟨t, htt⟩ : ∃ t, t = tabZ p := ⟨_, rfl⟩
  rw [← htt] at HT hs ht
  have HS := Lib.hid hs
  have i1 : IntKind.i64.wrap (t + p.l) = t + p.l := IntWalk.i64_in _ (by omega)
  have i2 : IntKind.i64.wrap (t + p.l + p.s) = t + p.l + p.s := IntWalk.i64_in _ (by omega)
  clear hp hs htt ht
  unfold planV
  go_enter Tryz.func25, Tryz.ntmps25
  go_wp2_with fail
  rw [← hw1] at c0 c1 c2 HB ⊢
  clear hw1
  refine (HT.out _).mono ?_
  rintro e w2 ⟨rfl, hb2⟩
  replace c0 := (hb2.cell (p := ⟨w.heap.size, 0, none⟩) hl).trans c0
  replace c1 := (hb2.cell (p := ⟨w.heap.size, 1, none⟩) hl).trans c1
  replace c2 := (hb2.cell (p := ⟨w.heap.size, 2, none⟩) hl).trans c2
  have HB2 := Lib.hid (Below_nx HB.out hb2)
  clear hb2
  go_wp2_with fail
  go_ret
  exact ⟨by rw [HS.out]; rfl, HB2.out⟩
set_option maxHeartbeats 8000000 in
theorem rcheck_any (p : PlanZ) (n : Int) (w : World) : Calls Tryz.prog 113 #[planV p, .int .i64 n] w fun e w' => e = .returned (.int .i64 (checkZ p n)) ∧ Below w.heap.size w w' := by
  obtain ⟨c0, c1, c2⟩ := rplan_cells p w
  have HB := Lib.hid (below_rplan p w)
  by_cases h : 0 ≤ p.a ∧ p.a ≤ 8192 ∧ 1 ≤ p.l ∧ p.l ≤ 1026 ∧ 0 ≤ p.s ∧ p.s ≤ 64
  · have hok := (okZ_iff p).2 h
    obtain ⟨w1, hw1⟩ : ∃ w1, w1 = w.alloc (Obj.cells #[.int .i64 p.a, .int .i64 p.l, .int .i64 p.s] 74) := ⟨_, rfl⟩
    have hl : w.heap.size < w1.heap.size := by rw [hw1, World.size_alloc]; omega
    obtain ⟨h1, h2, h3, h4, h5, h6⟩ := h
    have HT := Lib.hid (fun W => show Calls Tryz.prog 25 #[.agg #[.int .i64 p.a, .int .i64 p.l, .int .i64 p.s]] W _ from rsize_any p hok W)
    have ht : 0 ≤ sizeZ p ∧ sizeZ p ≤ 2000 := by unfold sizeZ tabZ; rw [if_pos hok]; omega
    have hc : checkZ p n = if n < p.a + sizeZ p then 3 else 0 := by unfold checkZ; rw [if_pos hok]
    obtain ⟨t, htt⟩ : ∃ t, t = sizeZ p := ⟨_, rfl⟩
    rw [← htt] at HT ht hc
    have HC := Lib.hid hc
    have i1 : IntKind.i64.wrap (p.a + t) = p.a + t := IntWalk.i64_in _ (by omega)
    clear htt hc hok ht
    unfold planV
    by_cases hlt : n < p.a + t
    · have HC2 := Lib.hid (show checkZ p n = 3 by rw [HC.out, if_pos hlt])
      go_enter Tryz.func113, Tryz.ntmps113
      go_wp2_with fail
      rw [← hw1] at c0 c1 c2 HB ⊢
      clear hw1
      refine (HT.out _).mono ?_
      rintro e w2 ⟨rfl, hb2⟩
      replace c0 := (hb2.cell (p := ⟨w.heap.size, 0, none⟩) hl).trans c0
      have HB2 := Lib.hid (Below_nx HB.out hb2)
      clear hb2
      go_wp2_with fail
      go_ret
      exact ⟨by rw [HC2.out]; rfl, HB2.out⟩
    · have HC2 := Lib.hid (show checkZ p n = 0 by rw [HC.out, if_neg hlt])
      go_enter Tryz.func113, Tryz.ntmps113
      go_wp2_with fail
      rw [← hw1] at c0 c1 c2 HB ⊢
      clear hw1
      refine (HT.out _).mono ?_
      rintro e w2 ⟨rfl, hb2⟩
      replace c0 := (hb2.cell (p := ⟨w.heap.size, 0, none⟩) hl).trans c0
      have HB2 := Lib.hid (Below_nx HB.out hb2)
      clear hb2
      go_wp2_with fail
      go_ret
      exact ⟨by rw [HC2.out]; rfl, HB2.out⟩
  · have HC := Lib.hid (show checkZ p n = 2 by unfold checkZ; rw [okZ_no p h]; rfl)
    rw [HC.out]
    unfold planV
    by_cases h1 : 0 ≤ p.a
    · by_cases h2 : p.a ≤ 8192
      · by_cases h3 : 1 ≤ p.l
        · by_cases h4 : p.l ≤ 1026
          · by_cases h5 : 0 ≤ p.s
            · have h6 : ¬ p.s ≤ 64 := fun q => h ⟨h1, h2, h3, h4, h5, q⟩
              clear h
              go_enter Tryz.func113, Tryz.ntmps113
              go_wp2
              go_ret
              exact ⟨rfl, HB.out⟩
            · clear h
              go_enter Tryz.func113, Tryz.ntmps113
              go_wp2
              go_ret
              exact ⟨rfl, HB.out⟩
          · clear h
            go_enter Tryz.func113, Tryz.ntmps113
            go_wp2
            go_ret
            exact ⟨rfl, HB.out⟩
        · clear h
          go_enter Tryz.func113, Tryz.ntmps113
          go_wp2
          go_ret
          exact ⟨rfl, HB.out⟩
      · clear h
        go_enter Tryz.func113, Tryz.ntmps113
        go_wp2
        go_ret
        exact ⟨rfl, HB.out⟩
    · clear h
      go_enter Tryz.func113, Tryz.ntmps113
      go_wp2
      go_ret
      exact ⟨rfl, HB.out⟩
end Go.Proofs.YtdgcninmpcmdcaaGreat

/-
  Layer 5: the document's Format.
-/
namespace Go.Proofs.YtdgcninmpcmdcaaGreat
open Go.RowKit
set_option linter.unusedVariables false

theorem zeroT_list : zeroT = ⟨(List.replicate 64 (0 : UInt8)).toArray⟩ := by decide +kernel
theorem zero_make (W : World) : (Instr.makeSlice 63 (.int .i64 64) (.int .i64 64)).run Tryz.prog W = .ok (.slice (some ⟨W.heap.size, 0, none⟩) 64 64) (W.alloc (.cells (rowOf (fun _ => .int .u8 0) 64) 5)) :=
  make_run (.int .u8 0) 1 64 64 rfl Tryz.underlying63 infoU8 rfl (by omega) (by omega) W
theorem zero_conv (W : World) : (convert 63 9 (.slice (some ⟨W.heap.size, 0, none⟩) 64 64)).run Tryz.prog (W.alloc (.cells (rowOf (fun _ => .int .u8 0) 64) 5)) = .ok (.string zeroT) (W.alloc (.cells (rowOf (fun _ => .int .u8 0) 64) 5)) := by
  have h := run_convert_bytes_back (P := Tryz.prog) (W.alloc (.cells (rowOf (fun _ => .int .u8 0) 64) 5)) 63 9 5 ⟨W.heap.size, 0, none⟩ 64 (List.replicate 64 (0 : UInt8)) Tryz.underlying63 Tryz.underlying5 Tryz.underlying9 (fun i hi => by
    have hi8 : i < 64 := by simpa using hi
    have e : (W.alloc (.cells (rowOf (fun _ => .int .u8 0) 64) 5)).cell? (Addr.add ⟨W.heap.size, 0, none⟩ i) = (rowOf (fun _ => Value.int .u8 0) 64)[i]? := by
      have := cell_of_row (W.alloc (.cells (rowOf (fun _ => .int .u8 0) 64) 5)) W.heap.size i (rowOf (fun _ => .int .u8 0) 64) 5 (0, 0) (heap_alloc_new W _)
      unfold Addr.add
      split
      · rename_i h0; subst h0; exact this
      · simp [this]
    rw [e, rowOf_get _ _ _ hi8, List.getElem_replicate]
    rfl)
  rw [List.length_replicate, ← zeroT_list] at h
  exact h
theorem Fu.zero {D : DevS} (h : Zero D) {c : Nat} (hb : Bd D c) : Fu D c := ⟨hb, by rw [h.calm.fuse]; omega⟩
theorem fmt_bd {p : PlanZ} {D : DevS} (hz : Zero D) (ha : 0 ≤ p.a) {c : Nat} (hb : Bd D c) : ∀ k : Nat, p.a + (k : Int) ≤ (D.n : Int) → (∀ j, j ≤ k → Bd (fmtD p j D) (c + 10 * j)) → Fu (fmtD p k D) (c + 10 * k) := fun k hk h =>
  .zero (fmt_zero hz ha k hk).1 (h k (Nat.le_refl _))
section
variable {w : World} {r : RefA} {D : DevS} {p : PlanZ} {c : Nat}
set_option maxRecDepth 100000 in
set_option maxHeartbeats 8000000 in
theorem rformat_ok (h : RefIs w r D) (hz : Zero D) (hB : ∀ j : Nat, (j : Int) ≤ tabZ p + p.l → Bd (fmtD p j D) (c + 10 * j)) (hc : c < 800000) (hp : checkZ p (D.n : Int) = 0) :
    Calls Tryz.prog 73 #[.pointer (some ⟨r.rd, 0, none⟩), planV p] w fun e w' => e = .returned (.int .i64 0) ∧ RefIs w' r (fmtD p (tabZ p + p.l).toNat D) ∧ Gr r.all w w' := by
  obtain ⟨hok, hsz⟩ := check_ok hp
  obtain ⟨h1, h2, h3, h4, h5, h6⟩ := (okZ_iff p).1 hok
  have ht : 0 ≤ tabZ p ∧ tabZ p ≤ 8 := by unfold tabZ; omega
  have hs : sizeZ p = tabZ p + p.l + p.s := by unfold sizeZ; rw [if_pos hok]
  obtain ⟨L, hL⟩ : ∃ L : Nat, tabZ p + p.l = (L : Int) := ⟨(tabZ p + p.l).toNat, by omega⟩
  rw [hL, Int.toNat_natCast]
  have hLn : p.a + (L : Int) ≤ (D.n : Int) := by omega
  have hL2 : L ≤ 1034 := by omega
  have hnI : D.n ≤ 8192 := h.hi
  obtain ⟨c0, c1, c2⟩ := rplan_cells p w
  have HG := Lib.hid ((Gr.refl [] w).alloc (Obj.cells #[.int .i64 p.a, .int .i64 p.l, .int .i64 p.s] 74))
  obtain ⟨w1, hw1⟩ : ∃ w1, w1 = w.alloc (Obj.cells #[.int .i64 p.a, .int .i64 p.l, .int .i64 p.s] 74) := ⟨_, rfl⟩
  obtain ⟨pb, hpb⟩ : ∃ pb, pb = w.heap.size := ⟨_, rfl⟩
  rw [← hpb] at c0 c1 c2
  have HNP := Lib.hid (show pb ∉ r.all from fun q => by have := h.lt _ q; omega)
  have HC := Lib.hid (fun W => show Calls Tryz.prog 113 #[.agg #[.int .i64 p.a, .int .i64 p.l, .int .i64 p.s], .int .i64 (D.n : Int)] W _ from rcheck_any p (D.n : Int) W)
  have HT := Lib.hid (fun W => show Calls Tryz.prog 71 #[.agg #[.int .i64 p.a, .int .i64 p.l, .int .i64 p.s]] W _ from rtable_any p hok W)
  rw [hp] at HC
  obtain ⟨t, htt⟩ : ∃ t, t = tabZ p := ⟨_, rfl⟩
  rw [← htt] at HT hL ht hB
  have i1 : IntKind.i64.wrap (t + p.l) = t + p.l := IntWalk.i64_in _ (by omega)
  have HD := Lib.hid h
  have HF := Lib.hid (And.intro hz (And.intro hB (And.intro hLn h1)))
  have HL := Lib.hid hL
  have HA := Lib.hid h2
  clear h hp hz hB htt hok hsz hs h1 h2 h3 h4 h5 h6 ht hL hLn
  unfold planV
  go_enter Tryz.func73, Tryz.ntmps73
  go_wp2_with fail
  rw [← hw1] at c0 c1 c2 HG ⊢
  rw [← hpb]
  clear hw1 hpb
  have HD1 := Lib.hid (HD.out.gr0 HG.out)
  have d1 := HD1.out.c1
  have k0 := kp_cell c0
  have k1 := kp_cell c1
  have k2 := kp_cell c2
  have k3 := kp_cell d1
  have hne := kp_ne w1
  refine wp_region_kp (by kernel_rfl) (by kernel_rfl) ?_
  repeat (go_big_quiet_step ((rename_i x; exact kp_call x (HC.out _))))
  with_reducible refine wpQuiet_nil ?_
  rintro _ ⟨y, rfl⟩
  have HG2 := Lib.hid (HG.out.nextB y.h)
  have HD2 := Lib.hid (HD1.out.gr0 (Gr.ofBelow y.h))
  replace c0 := k0 y
  replace c1 := k1 y
  replace c2 := k2 y
  clear k0 k1 k2 k3 d1 hne HD1 HG HC
  generalize y.w = w2 at *
  clear y
  have hlt : pb < w2.heap.size := World.block_lt_of_cell? w2 _ c0
  have hmk := zero_make w2
  have hcv := zero_conv w2
  have ga := (Gr.refl [] w2).alloc (Obj.cells (rowOf (fun _ => .int .u8 0) 64) 5)
  have HG3 := Lib.hid (HG2.out.trans ga)
  have HD3 := Lib.hid (HD2.out.gr0 ga)
  have e0 := (ga.cell0 (o := 0) hlt).trans c0
  have e1 := (ga.cell0 (o := 1) hlt).trans c1
  have e2 := (ga.cell0 (o := 2) hlt).trans c2
  obtain ⟨Z, hZ⟩ : ∃ Z, Z = zeroT := ⟨_, rfl⟩
  have HZ := Lib.hid hZ
  rw [← hZ] at hcv
  clear hZ
  clear ga hlt c0 c1 c2 HG2 HD2
  generalize hrow : rowOf (fun _ => Value.int .u8 0) 64 = R at *
  clear hrow
  go_wp2_with fail
  generalize (w2.alloc (Obj.cells R 5)) = w3 at *
  refine (HT.out _).mono ?_
  rintro e w4 ⟨rfl, b4⟩
  have g4 := Gr.ofBelow (cs := []) b4
  have hlt : pb < w3.heap.size := World.block_lt_of_cell? w3 _ e0
  have f0 := (g4.cell0 (o := 0) hlt).trans e0
  have f1 := (g4.cell0 (o := 1) hlt).trans e1
  have HG4 := Lib.hid (HG3.out.trans g4)
  have HD4 := Lib.hid (HD3.out.gr0 g4)
  clear b4 g4 hlt e0 e1 e2 HG3 HD3 hmk hcv
  go_wp2_with fail
  go_loopw [5, 8] (fun e k wr => ∃ j : Nat, j ≤ L ∧ e = .int .i64 0 ∧ k = .int .i64 j ∧ RefIs wr r (fmtD p j D) ∧ wr.cell? ⟨pb, 0, none⟩ = some (.int .i64 p.a) ∧ wr.cell? ⟨pb, 1, none⟩ = some (.int .i64 p.l) ∧ Gr r.all w wr) (fun _ k _ => L - (intOf k).toNat)
  case atStart => exact ⟨0, by omega, rfl, rfl, HD4.out, f0, f1, HG4.out.of0⟩
  case round =>
    obtain ⟨j, hj, rfl, rfl, hd', c0', c1', g'⟩ := hrel
    have HH := Lib.hid (And.intro hd' (And.intro g' (And.intro c0' c1')))
    clear hd' g' f0 f1
    by_cases hjL : j < L
    · have ij : (j : Int) < t + p.l := by have := HL.out; omega
      have i2 : IntKind.i64.wrap (p.a + (j : Int)) = p.a + (j : Int) := IntWalk.i64_in _ (by have := HA.out; have := HF.out.2.2.2; omega)
      have HP := Lib.hid (rput4_any r (fmtD p j D) (p.a + (j : Int)) Z (c + 10 * j) wr HH.out.1 (.zero (fmt_zero HF.out.1 HF.out.2.2.2 j (by have := HF.out.2.2.1; omega)).1 (HF.out.2.1 j (by omega))) (by omega) (by rw [HZ.out, zeroT_size]; unfold maxLen; omega))
      rw [HZ.out, fmt_put HF.out.1 HF.out.2.2.2 j (by have := HF.out.2.2.1; omega), ← HZ.out] at HP
      go_wp2_with fail
      refine HP.out.mono ?_
      rintro e w5 ⟨rfl, hd5, g5⟩
      have hlt : pb < wr.heap.size := World.block_lt_of_cell? wr _ c0'
      have H5 := Lib.hid (And.intro hd5 (And.intro ((World.cell?_of_block (w := wr) (g5.block pb hlt HNP.out)).trans c0') (And.intro ((World.cell?_of_block (w := wr) (g5.block pb hlt HNP.out)).trans c1') (HH.out.2.1.trans g5))))
      clear hd5 g5 hlt
      go_wp2_with fail
      go_roundw
      case rel => exact ⟨j + 1, by omega, rfl, by go_num, by have := H5.out.1; rw [HZ.out] at this; exact this, H5.out.2.1, H5.out.2.2.1, H5.out.2.2.2⟩
      case measure => simp [intOf]; omega
    · obtain rfl : j = L := by omega
      have ij : ¬ ((j : Int) < t + p.l) := by have := HL.out; omega
      go_wp2_with fail
      go_ret
      exact ⟨rfl, HH.out.1, HH.out.2.1⟩
end
end Go.Proofs.YtdgcninmpcmdcaaGreat

/-
  Layer 5: the law's pair.
-/
namespace Go.Proofs.YtdgcninmpcmdcaaGreat
open Go.RowKit
set_option linter.unusedVariables false

theorem fin_bd {D : DevS} {c l : Nat} (h : Bd D c) : Bd (finS l D).2 (c + 2) := by
  unfold finS
  split
  · exact (h.flush _ _).fence _
  · exact (h.flush _ _).mono (by omega)
theorem stos_bd (l k : Nat) (f : Nat → Nat) : ∀ (m i : Nat) (D : DevS) (c : Nat), Bd D c → Bd (stos l k f m i D).2 (c + m + 2)
  | 0, i, D, c, h => by unfold stos; exact fin_bd h
  | m + 1, i, D, c, h => by
    unfold stos
    split
    · exact (stos_bd l k f m (i + 1) _ (c + 1) (h.store _ _ _)).mono (by omega)
    · exact (h.store _ _ _).mono (by omega)
theorem put_bd {D : DevS} {c : Nat} (h : Bd D c) (z : Int) (s : ByteArray) : Bd (putE D z s).2 (c + 10) := by
  unfold putE
  split
  · exact h.mono (by omega)
  · split
    · exact (stos_bd _ _ _ _ _ _ _ h).mono (by omega)
    · exact h.mono (by omega)
theorem fmt_bds {p : PlanZ} {D : DevS} {c : Nat} (h : Bd D c) : ∀ k : Nat, Bd (fmtD p k D) (c + 10 * k)
  | 0 => h
  | k + 1 => (put_bd (fmt_bds h k) _ _).mono (by omega)
theorem new_bd (n : Nat) : Bd (newD n) 0 := ⟨Nat.le_refl _, fun l => ⟨Int.le_refl _, Int.le_refl _⟩⟩
end Go.Proofs.YtdgcninmpcmdcaaGreat

/-
  Plain lemmas on the reference's register: bit by bit.
-/
namespace Go.Proofs.YtdgcninmpcmdcaaGreat
open Go.RowKit

/-- One bit goes through a register whose highest place comes first. -/
def st {w : Nat} (p x : BitVec w) (b : Bool) : BitVec w := (x <<< 1) ^^^ (if (x.msb ^^ b) = true then p else 0#w)
def bitsHi (u : UInt8) : List Bool := (List.range 8).map fun k => u.toNat.testBit (7 - k)
def bitsLo (u : UInt8) : List Bool := (List.range 8).map fun k => u.toNat.testBit k
theorem st16 (x : BitVec 16) (b : Bool) : st 0x1021#16 x b = s16 x ^^^ (if b = true then 0x1021#16 else 0#16) := by
  unfold st s16
  rw [ite_xor, BitVec.xor_assoc]
def it16 : Nat → BitVec 16 → BitVec 16
  | 0, x => x
  | n + 1, x => it16 n (s16 x)
theorem fold16 (l : List Bool) : ∀ (x y : BitVec 16), l.foldl (st 0x1021#16) (x ^^^ y) = it16 l.length x ^^^ l.foldl (st 0x1021#16) y := by
  induction l with
  | nil => intro x y; rfl
  | cons b l ih =>
    intro x y
    have e : st 0x1021#16 (x ^^^ y) b = s16 x ^^^ st 0x1021#16 y b := by
      rw [st16, st16, s16_xor, BitVec.xor_assoc]
    simp only [List.foldl_cons, List.length_cons, it16]
    rw [e, ih]
theorem byte0_16 : ∀ n : Fin 256, (bitsHi (UInt8.ofNat n)).foldl (st 0x1021#16) 0#16 = b16 0#16 (UInt8.ofNat n) := by decide +kernel
theorem byte16 (x : BitVec 16) (u : UInt8) : (bitsHi u).foldl (st 0x1021#16) x = b16 x u := by
  have h0 := byte0_16 ⟨u.toNat, u.toNat_lt⟩
  have hu : UInt8.ofNat u.toNat = u := by simp
  simp only [hu] at h0
  have h1 := fold16 (bitsHi u) x 0#16
  rw [BitVec.xor_zero, h0] at h1
  rw [h1]
  have h2 := b16_xor x 0#16 0 u
  rw [BitVec.xor_zero, show (0 : UInt8) ^^^ u = u by simp] at h2
  rw [h2]
  congr 1
  have : (bitsHi u).length = 8 := by simp [bitsHi]
  rw [this]
  unfold b16
  simp [it16]
theorem sum16_bits (l : List UInt8) : ∀ x : BitVec 16, (l.flatMap bitsHi).foldl (st 0x1021#16) x = c16 l x := by
  induction l with
  | nil => intro x; rfl
  | cons u l ih =>
    intro x
    rw [List.flatMap_cons, List.foldl_append, byte16, ih]
    rfl

end Go.Proofs.YtdgcninmpcmdcaaGreat

/-
  The reference's Sum: a register as a row of bits.
-/
namespace Go.Proofs.YtdgcninmpcmdcaaGreat
open Go.RowKit

def bv (b : Bool) : Value := .int .i64 (b.toNat : Int)
/-- A row that holds a register's places. -/
def RegIs (xs : List Value) (n : Nat) (f : Nat → Bool) : Prop := xs.length = n ∧ ∀ j, j < n → xs[j]? = some (bv (f j))
theorem RegIs.set {xs : List Value} {n : Nat} {f g : Nat → Bool} (h : RegIs xs n f) (k : Nat) (b : Bool) (hk : k < n) (hg : g k = b) (ho : ∀ j, j < n → j ≠ k → g j = f j) : RegIs (xs.set k (bv b)) n g := by
  refine ⟨by simpa using h.1, fun j hj => ?_⟩
  have := h.1
  by_cases e : j = k
  · subst e; rw [List.getElem?_set_self (by omega), hg]
  · rw [List.getElem?_set_ne (fun h => e h.symm), ho j hj e]; exact h.2 j hj
theorem RegIs.congr {xs : List Value} {n : Nat} {f g : Nat → Bool} (h : RegIs xs n f) (ho : ∀ j, j < n → g j = f j) : RegIs xs n g :=
  ⟨h.1, fun j hj => by rw [ho j hj]; exact h.2 j hj⟩
def shF (n : Nat) (f : Nat → Bool) : Nat → Bool := fun j => if j + 1 < n then f (j + 1) else false
def stF (n : Nat) (t f : Nat → Bool) (b : Bool) : Nat → Bool := fun j => if (f 0 ^^ b) = true then (shF n f j ^^ t j) else shF n f j
theorem own_keepS {w w' : World} {base : Nat} {e : TypeId} {size n : Nat} {v : Value} {xs : List Value} (h : w.ownsRow base e size v n xs) (hb : Below w.heap.size w w') : w'.ownsRow base e size v n xs := by
  refine ⟨h.1, ?_⟩
  rcases h.2 with hn | ⟨g, cap, cur, rfl, hg, hh, rest⟩
  · exact .inl hn
  · exact .inr ⟨g, cap, cur, rfl, hg, (hb.block g (Array.getElem?_eq_some_iff.1 hh).1).trans hh, rest⟩
theorem make_below {w wm : World} (hgrow : w.grownBy wm none) : Below w.heap.size w wm := (Below.refl _ _).grown hgrow (by simp) (fun k hk => by cases hk)
theorem below_drewN {B : Nat} {a w : World} (h : Below B a w) (n : Nat) : Below B a (w.drewN n) := ⟨h.os, h.tape, h.output, h.size, h.block⟩
theorem bit_sum (a b : Bool) : ((a.toNat : Int) + (b.toNat : Int)) % 2 = ((a ^^ b).toNat : Int) := by cases a <;> cases b <;> rfl
theorem bit_le (a : Bool) : a.toNat ≤ 1 := by cases a <;> simp

set_option maxRecDepth 100000 in
set_option maxHeartbeats 2000000 in
theorem rsum (n L lb lc tb tc : Nat) (ls : List Bool) (t : Nat → Bool) (xt : List Value) (w : World) (n1 : 1 ≤ n) (n2 : n ≤ 64) (hL : ls.length = L) (hL2 : L ≤ 100000)
    (hl : w.ownsRow 0 3 1 (.slice (some ⟨lb, 0, none⟩) L lc) L (ls.map bv)) (ht : w.ownsRow 0 3 1 (.slice (some ⟨tb, 0, none⟩) n tc) n xt) (hxt : RegIs xt n t) :
    Calls Tryz.prog 153 #[.slice (some ⟨lb, 0, none⟩) L lc, .slice (some ⟨tb, 0, none⟩) n tc] w fun e w' => ∃ xs : List Value, e = .returned (.slice (some ⟨w.heap.size, 0, none⟩) n n) ∧
      w'.ownsRow w.heap.size 3 1 (.slice (some ⟨w.heap.size, 0, none⟩) n n) n xs ∧ RegIs xs n (ls.foldl (stF n t) (fun _ => true)) ∧ Below w.heap.size w w' := by
  obtain ⟨i0, hi, hz0, hz1, hz2⟩ := info_parts infoInt
  have lbs : lb < w.heap.size := (hl.lt lb rfl).2
  have tbs : tb < w.heap.size := (ht.lt tb rfl).2
  have HL := Lib.hid hl
  have HT := Lib.hid ht
  have HXT := Lib.hid hxt
  clear hl ht hxt
  go_enter Tryz.func153, Tryz.ntmps153
  go_wp2_with (refine wpList_make_full _ rfl _ _ 52 rfl w.heap.size 3 i0 (.int .i64 0) 1 Tryz.underlying52 hi hz0 hz1 .i64 .i64 _ _ n rfl rfl rfl rfl (by rw [hz2]; omega) (by unfold maxLen; omega) (by simp) ?_; intro wm hown hgrow; have B1 := make_below hgrow; clear hgrow)
  generalize (madeCells (Value.cells (.int .i64 0)) (n * 1)).toList = xs0 at *
  go_loopw [6] (fun i wr => ∃ (k : Nat) (xs : List Value), k ≤ n ∧ i = .int .i64 k ∧ wr.ownsRow w.heap.size 3 1 (.slice (some ⟨w.heap.size, 0, none⟩) n n) n xs ∧ (∀ j, j < k → xs[j]? = some (bv true)) ∧ Below w.heap.size w wr) (fun i _ => n - (intOf i).toNat)
  case atStart => exact ⟨0, xs0, by omega, rfl, hown, fun p hp => by omega, B1⟩
  case round =>
    clear hown B1
    obtain ⟨k, xs, hk, rfl, hown, hdone, B2⟩ := hrel
    have hx : xs.length = n := by simpa using hown.1
    by_cases hlt : k < n
    · have hst := hown.stored k (.int .i64 1)
      have hc := hown.cellAt k (by omega)
      rw [List.getElem?_eq_getElem (by omega)] at hc
      have hf := hown.frozenAt k
      have hnext : ∀ p, p < k + 1 → (xs.set k (.int .i64 1))[p]? = some (bv true) := by
        intro p hp
        by_cases e : p = k
        · subst e; rw [List.getElem?_set_self (by omega)]; rfl
        · rw [List.getElem?_set_ne (fun h => e h.symm)]; exact hdone p (by omega)
      have RR := Lib.hid (And.intro hst.1 (And.intro hnext (B2.setCell (p := ⟨w.heap.size, k, none⟩) (by simp) (.int .i64 1))))
      generalize xs[k] = u at *
      clear hst hnext hdone hown B2
      go_wp2
      go_roundw
      case rel => exact ⟨k + 1, _, by omega, by go_num, RR.out.1, RR.out.2.1, RR.out.2.2⟩
      case measure => simp [intOf]; omega
    · have hr1 : RegIs xs n (fun _ => true) := ⟨hx, fun j hj => hdone j (by omega)⟩
      have HR1 := Lib.hid (And.intro hown hr1)
      clear hdone hown hx
      go_wp2_with fail
      go_loopw [7] (fun i wr => ∃ (k : Nat) (xs : List Value), k ≤ L ∧ i = .int .i64 k ∧ wr.ownsRow w.heap.size 3 1 (.slice (some ⟨w.heap.size, 0, none⟩) n n) n xs ∧
          RegIs xs n ((ls.take k).foldl (stF n t) (fun _ => true)) ∧ Below w.heap.size w wr) (fun i _ => L - (intOf i).toNat)
      case atStart => exact ⟨0, xs, by omega, rfl, HR1.out.1, by simpa using HR1.out.2, B2⟩
      case round =>
        clear HR1 B2 hr1 hk
        obtain ⟨i, xs, hk, rfl, hown, hreg, B2⟩ := hrel
        by_cases hlt : i < L
        · obtain ⟨b, hb⟩ : ∃ b, ls[i]? = some b := ⟨_, List.getElem?_eq_getElem (by omega)⟩
          have hnx : (ls.take (i + 1)).foldl (stF n t) (fun _ => true) = stF n t ((ls.take i).foldl (stF n t) (fun _ => true)) b := by
            rw [List.take_add_one, hb, List.foldl_append]; rfl
          have HNX := Lib.hid hnx
          clear hnx
          generalize (ls.take i).foldl (stF n t) (fun _ => true) = f at *
          have hlr := (own_keepS HL.out B2).cellAt i (by omega)
          rw [List.getElem?_map, hb] at hlr
          have hlr2 : wr.cell? ⟨lb, i, none⟩ = some (.int .i64 (b.toNat : Int)) := hlr
          have h0 : wr.cell? ⟨w.heap.size, 0, none⟩ = some (.int .i64 ((f 0).toNat : Int)) := by
            rw [hown.cellAt 0 (by omega)]; exact hreg.2 0 (by omega)
          have hsum := bit_sum (f 0) b
          have q1 := bit_le (f 0)
          have q2 := bit_le b
          have q3 := bit_le (f 0 ^^ b)
          obtain ⟨o, ho⟩ : ∃ o, (f 0 ^^ b) = o := ⟨_, rfl⟩
          rw [ho] at hsum q3
          obtain ⟨O, hO⟩ : ∃ O : Int, O = (o.toNat : Int) := ⟨_, rfl⟩
          rw [← hO] at hsum
          have q4 : 0 ≤ O ∧ O ≤ 1 := by omega
          have HOO := Lib.hid (And.intro ho hO)
          clear hO q3
          have HH := Lib.hid (And.intro hown hreg)
          clear ho hlr hown hreg hb
          go_wp2_with fail
          go_quiet (fail)
          go_wp2_with fail
          rw [hsum]
          clear hlr2 h0 hsum q1 q2
          go_loopw [9] (fun i wr => ∃ (k : Nat) (ys : List Value), k + 1 ≤ n ∧ i = .int .i64 k ∧ wr.ownsRow w.heap.size 3 1 (.slice (some ⟨w.heap.size, 0, none⟩) n n) n ys ∧
              RegIs ys n (fun j => if j < k then f (j + 1) else f j) ∧ Below w.heap.size w wr) (fun i _ => n - (intOf i).toNat)
          case atStart => exact ⟨0, xs, by omega, rfl, HH.out.1, HH.out.2.congr (by intro j hj; simp), below_drewN B2 _⟩
          case round =>
            clear HH B2
            obtain ⟨k, ys, hk1, rfl, hown, hreg, B2⟩ := hrel
            by_cases hlt2 : k + 1 < n
            · have hc : wr.cell? ⟨w.heap.size, k + 1, none⟩ = some (.int .i64 ((f (k + 1)).toNat : Int)) := by
                rw [hown.cellAt (k + 1) (by omega), hreg.2 (k + 1) hlt2]; exact congrArg (fun b => some (bv b)) (if_neg (by omega))
              have hd : wr.cell? ⟨w.heap.size, k, none⟩ = some (.int .i64 ((f k).toNat : Int)) := by
                rw [hown.cellAt k (by omega), hreg.2 k (by omega)]; exact congrArg (fun b => some (bv b)) (if_neg (by omega))
              have hf := hown.frozenAt k
              have hst := hown.stored k (bv (f (k + 1)))
              have RR := Lib.hid (And.intro hst.1 (And.intro (hreg.set (g := fun j => if j < k + 1 then f (j + 1) else f j) k (f (k + 1)) (by omega) (by simp) (by
                intro j hj hne
                by_cases c : j < k
                · simp only [if_pos c, if_pos (show j < k + 1 by omega)]
                · simp only [if_neg c, if_neg (show ¬ j < k + 1 by omega)])) (B2.setCell (p := ⟨w.heap.size, k, none⟩) (by simp) (bv (f (k + 1))))))
              clear hst hown hreg B2
              unfold bv at RR
              go_wp2
              go_roundw
              case rel => exact ⟨k + 1, _, by omega, by go_num, RR.out.1, RR.out.2.1, RR.out.2.2⟩
              case measure => simp [intOf]; omega
            · have hnk : (n : Int) - 1 = (k : Int) := by omega
              have hd : wr.cell? ⟨w.heap.size, k, none⟩ = some (.int .i64 ((f k).toNat : Int)) := by
                rw [hown.cellAt k (by omega), hreg.2 k (by omega)]; exact congrArg (fun b => some (bv b)) (if_neg (by omega))
              have hf := hown.frozenAt k
              have hst := hown.stored k (.int .i64 0)
              have RR := Lib.hid (And.intro hst.1 (And.intro (hreg.set (g := shF n f) k false (by omega) (by unfold shF; rw [if_neg hlt2]) (by
                intro j hj hne
                unfold shF
                simp only [if_pos (show j < k by omega), if_pos (show j + 1 < n by omega)])) (B2.setCell (p := ⟨w.heap.size, k, none⟩) (by simp) (.int .i64 0))))
              clear hst hown hreg B2
              go_wp2_with fail
              have RR2 := RR.out
              generalize wr.setCell ⟨w.heap.size, k, none⟩ (.int .i64 0) = wv at *
              clear hd hf
              generalize hys : ys.set k (bv false) = ys1 at *
              have RR3 : wv.ownsRow w.heap.size 3 1 (.slice (some ⟨w.heap.size, 0, none⟩) n n) n ys1 := by rw [← hys]; exact RR2.1
              obtain ⟨_, hreg4, B4⟩ := RR2
              clear RR hys
              go_loopw [10] (fun i wr => ∃ (k : Nat) (zs : List Value), k ≤ n ∧ (o = false → k = 0) ∧ i = .int .i64 k ∧ wr.ownsRow w.heap.size 3 1 (.slice (some ⟨w.heap.size, 0, none⟩) n n) n zs ∧
                  RegIs zs n (fun j => if j < k then (shF n f j ^^ t j) else shF n f j) ∧ Below w.heap.size w wr) (fun i _ => n - (intOf i).toNat)
              case atStart => exact ⟨0, ys1, by omega, fun _ => rfl, rfl, RR3, hreg4.congr (by intro j hj; simp), B4⟩
              case round =>
                clear RR3 hreg4 B4
                obtain ⟨m, zs, hm, hzero, rfl, hown, hreg, B4⟩ := hrel
                by_cases ho1 : o = true
                · have hO1 : (O == 1) = true := by rw [HOO.out.2, ho1]; rfl
                  by_cases hlt3 : m < n
                  · have hc : wr.cell? ⟨w.heap.size, m, none⟩ = some (.int .i64 ((shF n f m).toNat : Int)) := by
                      rw [hown.cellAt m (by omega), hreg.2 m (by omega)]; exact congrArg (fun b => some (bv b)) (if_neg (by omega))
                    have ht : wr.cell? ⟨tb, m, none⟩ = some (.int .i64 ((t m).toNat : Int)) := by
                      rw [(own_keepS HT.out B4).cellAt m (by omega)]; exact HXT.out.2 m hlt3
                    have hf := hown.frozenAt m
                    have hst := hown.stored m (bv (shF n f m ^^ t m))
                    have RR := Lib.hid (And.intro hst.1 (And.intro (hreg.set (g := fun j => if j < m + 1 then (shF n f j ^^ t j) else shF n f j) m (shF n f m ^^ t m) (by omega) (by simp) (by
                      intro j hj hne
                      by_cases c : j < m
                      · simp only [if_pos c, if_pos (show j < m + 1 by omega)]
                      · simp only [if_neg c, if_neg (show ¬ j < m + 1 by omega)])) (B4.setCell (p := ⟨w.heap.size, m, none⟩) (by simp) (bv (shF n f m ^^ t m)))))
                    have hsum := bit_sum (shF n f m) (t m)
                    have q1 := bit_le (shF n f m)
                    have q2 := bit_le (t m)
                    clear hst hown hreg B4 hzero
                    unfold bv at RR
                    generalize (shF n f m ^^ t m) = p at *
                    go_wp2_with fail
                    go_region
                    go_wp2
                    go_roundw
                    case rel => exact ⟨m + 1, _, by omega, (fun h => absurd (h.symm.trans ho1) (by simp)), by go_num, RR.out.1, RR.out.2.1, RR.out.2.2.drew⟩
                    case measure => simp [intOf]; omega
                  · have hfin : RegIs zs n ((ls.take (i + 1)).foldl (stF n t) (fun _ => true)) := by
                      rw [HNX.out]
                      refine hreg.congr (fun j hj => ?_)
                      unfold stF
                      rw [HOO.out.1, if_pos ho1, if_pos (by omega)]
                    have RR := Lib.hid (And.intro hown (And.intro hfin B4))
                    clear hown hreg hfin B4 hzero
                    go_wp2
                    go_roundw
                    case rel => exact ⟨i + 1, zs, by omega, by go_num, RR.out.1, RR.out.2.1, RR.out.2.2⟩
                    case measure => simp [intOf]; omega
                · have ho2 : o = false := by simpa using ho1
                  have hO1 : (O == 1) = false := by rw [HOO.out.2, ho2]; rfl
                  obtain rfl : m = 0 := hzero ho2
                  have hn0 : (0 : Int) < n := by omega
                  have hfin : RegIs zs n ((ls.take (i + 1)).foldl (stF n t) (fun _ => true)) := by
                    rw [HNX.out]
                    refine hreg.congr (fun j hj => ?_)
                    unfold stF
                    rw [HOO.out.1, if_neg ho1, if_neg (by omega)]
                  have RR := Lib.hid (And.intro hown (And.intro hfin B4))
                  clear hown hreg hfin B4 hzero
                  go_wp2
                  go_roundw
                  case rel => exact ⟨i + 1, zs, by omega, by go_num, RR.out.1, RR.out.2.1, RR.out.2.2⟩
                  case measure => simp [intOf]; omega
        · have hiL : i = L := by omega
          have hfin : RegIs xs n (ls.foldl (stF n t) (fun _ => true)) := by
            rw [hiL, ← hL, List.take_length] at hreg
            exact hreg
          have RR := Lib.hid (And.intro hown (And.intro hfin B2))
          clear hown hreg hfin B2
          go_wp2
          go_ret
          exact ⟨xs, rfl, RR.out.1, RR.out.2.1, RR.out.2.2⟩

end Go.Proofs.YtdgcninmpcmdcaaGreat

/-
  The reference's bits and number.
-/
namespace Go.Proofs.YtdgcninmpcmdcaaGreat
open Go.RowKit

def numF (f : Nat → Bool) : Nat → Nat
  | 0 => 0
  | n + 1 => 2 * numF f n + (f n).toNat
theorem numF_lt (f : Nat → Bool) (n : Nat) : numF f n < 2 ^ n := by
  induction n with
  | zero => simp [numF]
  | succ n ih => unfold numF; have := bit_le (f n); rw [Nat.pow_succ]; omega
theorem numF_msb {w : Nat} (x : BitVec w) (f : Nat → Bool) (h : ∀ j, j < w → f j = x.getMsbD j) (n : Nat) (hn : n ≤ w) : numF f n = x.toNat / 2 ^ (w - n) := by
  induction n with
  | zero => rw [Nat.sub_zero, Nat.div_eq_of_lt x.isLt]; rfl
  | succ n ih =>
    unfold numF
    rw [ih (by omega), h n (by omega), BitVec.getMsbD]
    have e : w - n = (w - (n + 1)) + 1 := by omega
    rw [e, Nat.pow_succ, ← Nat.div_div_eq_div_mul]
    have hb : x.getLsbD (w - 1 - n) = x.toNat.testBit (w - (n + 1)) := by
      rw [BitVec.getLsbD, show w - 1 - n = w - (n + 1) by omega]
    rw [hb, decide_eq_true (show n < w by omega), Bool.true_and, Nat.testBit_eq_decide_div_mod_eq]
    generalize x.toNat / 2 ^ (w - (n + 1)) = q
    by_cases c : q % 2 = 1
    · simp [c]; omega
    · simp [c]; omega
theorem numF_all {w : Nat} (x : BitVec w) (f : Nat → Bool) (h : ∀ j, j < w → f j = x.getMsbD j) : numF f w = x.toNat := by
  rw [numF_msb x f h w (Nat.le_refl _)]; simp
theorem field1 (u : UInt8) (a : Nat) (h : a ≤ 7) : fieldN u.toNat (a : Int) 1 = (u.toNat.testBit a).toNat := by
  have hok : okF (a : Int) 1 := by unfold okF; omega
  have h1 := fieldN_testBit u.toNat a 1 hok 0
  have h2 := fieldN_lt u.toNat a 1 hok
  simp only [Int.toNat_one, Int.toNat_natCast, Nat.add_zero] at h1 h2
  rw [Nat.testBit_zero] at h1
  generalize fieldN u.toNat (a : Int) 1 = q at *
  simp at h1
  rw [← h1]
  have : q = 0 ∨ q = 1 := by omega
  rcases this with rfl | rfl <;> rfl

set_option maxHeartbeats 1000000 in
theorem rnumber (n g c : Nat) (f : Nat → Bool) (xs : List Value) (w : World) (n2 : n ≤ 63) (hown : w.ownsRow 0 3 1 (.slice (some ⟨g, 0, none⟩) n c) n xs) (hreg : RegIs xs n f) :
    Calls Tryz.prog 154 #[.slice (some ⟨g, 0, none⟩) n c] w fun e w' => e = .returned (.int .u64 (numF f n : Nat)) ∧ w = w' := by
  have HO := Lib.hid (And.intro hown hreg)
  clear hown hreg
  go_enter Tryz.func154, Tryz.ntmps154
  go_wp2
  go_loop [3, 4] (fun v i => ∃ k : Nat, k ≤ n ∧ i = .int .i64 k ∧ v = .int .u64 (numF f k : Nat)) (fun _ i => n - (intOf i).toNat)
  case atStart => exact ⟨0, by omega, rfl, rfl⟩
  case round =>
    obtain ⟨k, hk, rfl, rfl⟩ := hrel
    by_cases hlt : k < n
    · have hc : w.cell? ⟨g, k, none⟩ = some (.int .i64 ((f k).toNat : Int)) := by
        rw [HO.out.1.cellAt k (by omega)]; exact HO.out.2.2 k hlt
      have h1 := bit_le (f k)
      have h2 := numF_lt f k
      have h3 : (2 : Nat) ^ k ≤ 2 ^ 62 := Nat.pow_le_pow_right (by omega) (by omega)
      have hs : numF f (k + 1) = 2 * numF f k + (f k).toNat := rfl
      have HS := Lib.hid hs
      clear hs
      generalize numF f k = a at *
      have h4 : a < 4611686018427387904 := by omega
      clear h2 h3
      go_wp2
      go_round
      case rel => exact ⟨k + 1, by omega, by go_num, by rw [HS.out]; push_cast; rfl⟩
      case measure => simp [intOf]; omega
    · obtain rfl : k = n := by omega
      go_wp2
      go_ret
      exact ⟨rfl, rfl⟩

def bitsD (low : Bool) (u : UInt8) : List Bool := (List.range 8).map fun k => u.toNat.testBit (if low = true then k else 7 - k)
theorem bitsD_length (low : Bool) (u : UInt8) : (bitsD low u).length = 8 := by simp [bitsD]
theorem bitsD_at (low : Bool) (u : UInt8) (k : Nat) (h : k < 8) : (bitsD low u)[k]? = some (u.toNat.testBit (if low = true then k else 7 - k)) := by
  simp [bitsD, h]
def preB (low : Bool) (l : List UInt8) : List Bool := l.flatMap (bitsD low)
theorem preB_length (low : Bool) (l : List UInt8) : (preB low l).length = 8 * l.length := by
  induction l with
  | nil => rfl
  | cons u l ih => unfold preB at ih ⊢; rw [List.flatMap_cons, List.length_append, bitsD_length, ih, List.length_cons]; omega
theorem preB_next (low : Bool) (l : List UInt8) (i : Nat) (h : i < l.length) : preB low (l.take (i + 1)) = preB low (l.take i) ++ bitsD low l[i] := by
  unfold preB
  rw [List.take_add_one, List.getElem?_eq_getElem h, List.flatMap_append]
  congr 1
theorem wrap_small (n : Nat) (h : n ≤ 100000) : IntKind.i64.wrap (n : Int) = n := IntWalk.i64_in _ (by omega)

set_option maxRecDepth 100000 in
set_option maxHeartbeats 2000000 in
theorem rbits (s : ByteArray) (low : Bool) (w : World) (hs : s.size ≤ 2000) :
    Calls Tryz.prog 152 #[.string s, .bool low] w fun e w' => ∃ v : Value, e = .returned v ∧ w'.ownsRow w.heap.size 3 1 v (8 * s.size) ((preB low s.data.toList).map bv) ∧ Below w.heap.size w w' := by
  obtain ⟨i0, hi, hz0, hz1, hz2⟩ := info_parts infoInt
  have hsl : s.data.toList.length = s.size := by rw [Array.length_toList]; rfl
  have HSL := Lib.hid hsl
  clear hsl
  go_enter Tryz.func152, Tryz.ntmps152
  go_wp2
  go_loopw [5, 6] (fun v i wr => ∃ k : Nat, k ≤ s.size ∧ i = .int .i64 k ∧ wr.ownsRow w.heap.size 3 1 v (8 * k) ((preB low (s.data.toList.take k)).map bv) ∧ Below w.heap.size w wr) (fun _ i _ => s.size - (intOf i).toNat)
  case atStart => exact ⟨0, by omega, rfl, World.ownsRow_nil _ _ _ _, Below.refl _ _⟩
  case round =>
    obtain ⟨i, hk, rfl, hown, B1⟩ := hrel
    by_cases hlt : i < s.size
    · obtain ⟨u, hu⟩ : ∃ u, s[i] = u := ⟨_, rfl⟩
      have hnx : preB low (s.data.toList.take (i + 1)) = preB low (s.data.toList.take i) ++ bitsD low u := by
        rw [preB_next low _ i (by rw [HSL.out]; exact hlt), ← hu]; rfl
      have HNX := Lib.hid hnx
      clear hnx
      have hpl : (preB low (s.data.toList.take i)).length = 8 * i := by rw [preB_length, List.length_take, HSL.out]; omega
      generalize preB low (s.data.toList.take i) = P at *
      go_wp2_with fail
      go_loopw [5, 7] (fun v j wr => ∃ k : Nat, k ≤ 8 ∧ j = .int .i64 k ∧ wr.ownsRow w.heap.size 3 1 v (8 * i + k) ((P ++ (bitsD low u).take k).map bv) ∧ Below w.heap.size w wr) (fun _ j _ => 8 - (intOf j).toNat)
      case atStart => exact ⟨0, by omega, rfl, by simpa using hown, B1⟩
      case round =>
        clear hown B1
        obtain ⟨k, hk8, rfl, hown, B1⟩ := hrel
        by_cases hlt2 : k < 8
        · obtain ⟨a, ha, ha7, hae⟩ : ∃ a : Nat, (a : Int) = (if low = true then (k : Int) else 7 - (k : Int)) ∧ a ≤ 7 ∧ a = (if low = true then k else 7 - k) := ⟨if low = true then k else 7 - k, by split <;> omega, by split <;> omega, rfl⟩
          have hbit := bitsD_at low u k hlt2
          rw [← hae] at hbit
          have hnx2 : P ++ (bitsD low u).take (k + 1) = (P ++ (bitsD low u).take k) ++ [u.toNat.testBit a] := by rw [List.take_add_one, hbit]; simp
          have hf1 := field1 u a ha7
          have hq := bit_le (u.toNat.testBit a)
          have hPl : (P ++ (bitsD low u).take k).length = 8 * i + k := by rw [List.length_append, List.length_take, bitsD_length, hpl]; omega
          generalize u.toNat.testBit a = p at *
          have HN2 := Lib.hid hnx2
          generalize P ++ (bitsD low u).take k = R at *
          have HF := Lib.hid hf1
          clear hnx2 hf1 hbit hae
          cases hlow : low
          · rw [hlow] at ha
            simp only [Bool.false_eq_true, if_false] at ha
            rw [hlow] at HN2
            subst hlow
            have hfl : fieldN u.toNat (7 - (k : Int)) 1 = p.toNat := by rw [← HF.out]; congr 1; omega
            have HFL := Lib.hid hfl
            clear hfl
            have hw0 : IntKind.u64.wrap (u.toNat : Int) = (u.toNat : Int) := by rw [IntKind.wrap_u64]; have := u.toNat_lt; omega
            go_wp2_with fail
            clear hw0
            have hw1 : IntKind.i64.wrap (p.toNat : Int) = (p.toNat : Int) := IntWalk.i64_in _ (by omega)
            refine (rfield_any u.toNat (7 - (k : Int)) 1 _ (by have := u.toNat_lt; omega)).mono ?_
            rintro e w2 ⟨rfl, rfl⟩
            rw [HFL.out]
            go_wp2_with (first
              | (at_builtin; refine wpList_append_own _ rfl _ _ 52 rfl w.heap.size 3 i0 (.int .i64 0) 1 8 Tryz.underlying52 hi hz0 hz1 hz2 rfl (by decide) _ _ _ rfl (hown.alloc _) ⟨wr.heap.size, 0, none⟩ 1 1 [bv p] rfl rfl ?c1 ?c2 ?c3 ?c4 ?c5 ?_))
            case c1 =>
              intro a u ha
              match a, ha with
              | 0, ha => simp at ha; subst ha; simp [Addr.add, bv]
            case c2 => intro u hu; simp at hu; subst hu; rfl
            case c3 => unfold maxLen; omega
            case c4 => omega
            case c5 => have := B1.size; simp; omega
            intro v' w3 hown3 hgrow3 _
            have RR := Lib.hid (And.intro (show w3.ownsRow w.heap.size 3 1 v' (8 * i + (k + 1)) ((P ++ List.take (k + 1) (bitsD false u)).map bv) by rw [HN2.out, List.map_append, ← Nat.add_assoc]; exact hown3)
              ((B1.alloc B1.size _).grown hgrow3 (by have := B1.size; simp; omega) (fun g hg => (hown.lt g hg).1)))
            clear hown3 hgrow3 hown B1
            go_wp2
            go_roundw
            case rel => exact ⟨k + 1, by omega, by go_num, RR.out.1, RR.out.2⟩
            case measure => simp [intOf]; omega
          · rw [hlow] at ha
            simp only [if_true] at ha
            rw [hlow] at HN2
            subst hlow
            have hfl : fieldN u.toNat (k : Int) 1 = p.toNat := by rw [← HF.out]; congr 1; omega
            have HFL := Lib.hid hfl
            clear hfl
            have hw0 : IntKind.u64.wrap (u.toNat : Int) = (u.toNat : Int) := by rw [IntKind.wrap_u64]; have := u.toNat_lt; omega
            go_wp2_with fail
            clear hw0
            have hw1 : IntKind.i64.wrap (p.toNat : Int) = (p.toNat : Int) := IntWalk.i64_in _ (by omega)
            refine (rfield_any u.toNat (k : Int) 1 _ (by have := u.toNat_lt; omega)).mono ?_
            rintro e w2 ⟨rfl, rfl⟩
            rw [HFL.out]
            go_wp2_with (first
              | (at_builtin; refine wpList_append_own _ rfl _ _ 52 rfl w.heap.size 3 i0 (.int .i64 0) 1 8 Tryz.underlying52 hi hz0 hz1 hz2 rfl (by decide) _ _ _ rfl (hown.alloc _) ⟨wr.heap.size, 0, none⟩ 1 1 [bv p] rfl rfl ?c1 ?c2 ?c3 ?c4 ?c5 ?_))
            case c1 =>
              intro a u ha
              match a, ha with
              | 0, ha => simp at ha; subst ha; simp [Addr.add, bv]
            case c2 => intro u hu; simp at hu; subst hu; rfl
            case c3 => unfold maxLen; omega
            case c4 => omega
            case c5 => have := B1.size; simp; omega
            intro v' w3 hown3 hgrow3 _
            have RR := Lib.hid (And.intro (show w3.ownsRow w.heap.size 3 1 v' (8 * i + (k + 1)) ((P ++ List.take (k + 1) (bitsD true u)).map bv) by rw [HN2.out, List.map_append, ← Nat.add_assoc]; exact hown3)
              ((B1.alloc B1.size _).grown hgrow3 (by have := B1.size; simp; omega) (fun g hg => (hown.lt g hg).1)))
            clear hown3 hgrow3 hown B1
            go_wp2
            go_roundw
            case rel => exact ⟨k + 1, by omega, by go_num, RR.out.1, RR.out.2⟩
            case measure => simp [intOf]; omega
        · obtain rfl : k = 8 := by omega
          have RR := Lib.hid (And.intro hown B1)
          clear hown B1
          go_wp2
          go_roundw
          case rel => exact ⟨i + 1, by omega, by go_num, by rw [HNX.out]; have := RR.out.1; rwa [List.take_of_length_le (by rw [bitsD_length]; omega)] at this, RR.out.2⟩
          case measure => simp [intOf]; omega
    · obtain rfl : i = s.size := by omega
      rw [List.take_of_length_le (by rw [HSL.out]; omega)] at hown
      have RR := Lib.hid (And.intro hown B1)
      clear hown B1
      go_wp2
      go_ret
      exact ⟨_, rfl, RR.out.1, RR.out.2⟩

end Go.Proofs.YtdgcninmpcmdcaaGreat

/-
  The reference's Sum16 and Guard.
-/
namespace Go.Proofs.YtdgcninmpcmdcaaGreat
open Go.RowKit

theorem size_is3 (l : List UInt8) : (ByteArray.mk l.toArray).size = l.length := by simp [ByteArray.size]
theorem own_zero {w : World} {base : Nat} {e : TypeId} {size n : Nat} {v : Value} {xs : List Value} (h : w.ownsRow base e size v n xs) : w.ownsRow 0 e size v n xs := by
  refine ⟨h.1, ?_⟩
  rcases h.2 with hn | ⟨g, cap, cur, hv, hg, rest⟩
  · exact .inl hn
  · exact .inr ⟨g, cap, cur, hv, Nat.zero_le _, rest⟩
theorem own_slice {w : World} {base : Nat} {e : TypeId} {size n : Nat} {v : Value} {xs : List Value} (h : w.ownsRow base e size v n xs) (hn : n ≠ 0) : ∃ g cap, v = .slice (some ⟨g, 0, none⟩) n cap ∧ base ≤ g := by
  rcases h.2 with ⟨_, h0⟩ | ⟨g, cap, cur, hv, hg, rest⟩
  · exact absurd h0 hn
  · exact ⟨g, cap, hv, hg⟩
theorem own_new (w : World) (e : TypeId) (cs : Array Value) (h : cs.size ≤ maxLen) : (w.alloc (.cells cs e)).ownsRow 0 e 1 (.slice (some ⟨w.heap.size, 0, none⟩) cs.size cs.size) cs.size cs.toList := by
  refine ⟨by simp, .inr ⟨w.heap.size, cs.size, cs, rfl, Nat.zero_le _, heap_alloc_new w _, Nat.le_refl _, h, by simp, ?_⟩⟩
  rw [Nat.mul_one, ← Array.length_toList, List.take_length]

theorem reg_step {w : Nat} (p x : BitVec w) (f : Nat → Bool) (b : Bool) (hw : 0 < w) (h : ∀ j, j < w → f j = x.getMsbD j) : ∀ j, j < w → stF w (fun j => p.getMsbD j) f b j = (st p x b).getMsbD j := by
  intro j hj
  have hm : x.msb = f 0 := by rw [h 0 hw, BitVec.msb]
  have hs : shF w f j = (x <<< 1).getMsbD j := by
    unfold shF
    rw [BitVec.getMsbD_shiftLeft]
    by_cases c : j + 1 < w
    · rw [if_pos c, h _ c]
    · rw [if_neg c, BitVec.getMsbD]
      simp; intro hc; omega
  unfold stF st
  rw [BitVec.getMsbD_xor, hs, hm]
  by_cases c : (f 0 ^^ b) = true
  · rw [if_pos c, if_pos c]
  · rw [if_neg c, if_neg c]; simp
theorem reg_fold {w : Nat} (p : BitVec w) (hw : 0 < w) (l : List Bool) : ∀ (x : BitVec w) (f : Nat → Bool), (∀ j, j < w → f j = x.getMsbD j) → ∀ j, j < w → (l.foldl (stF w (fun j => p.getMsbD j)) f) j = (l.foldl (st p) x).getMsbD j := by
  induction l with
  | nil => intro x f h; exact h
  | cons b l ih =>
    intro x f h
    simp only [List.foldl_cons]
    exact ih _ _ (reg_step p x f b hw h)
theorem bitsD_hi (u : UInt8) : bitsD false u = bitsHi u := by
  unfold bitsD bitsHi
  simp
theorem ones16 : ∀ j, j < 16 → (fun _ : Nat => true) j = (0xFFFF#16).getMsbD j := by decide
def turns16 : List Value := [.int .i64 0, .int .i64 0, .int .i64 0, .int .i64 1, .int .i64 0, .int .i64 0, .int .i64 0, .int .i64 0, .int .i64 0, .int .i64 0, .int .i64 1, .int .i64 0, .int .i64 0, .int .i64 0, .int .i64 0, .int .i64 1]
theorem bits16 : ∀ j : Fin 16, (List.map (fun b : Bool => (b.toNat : Int)) [false, false, false, true, false, false, false, false, false, false, true, false, false, false, false, true])[j]? = some (((0x1021#16).getMsbD j).toNat : Int) := by decide
theorem turns_reg : RegIs turns16 16 (fun j => (0x1021#16).getMsbD j) := by
  refine ⟨rfl, fun j hj => ?_⟩
  have h := bits16 ⟨j, hj⟩
  have e : turns16 = (List.map (fun b : Bool => (b.toNat : Int)) [false, false, false, true, false, false, false, false, false, false, true, false, false, false, false, true]).map (Value.int .i64) := rfl
  rw [e, List.getElem?_map]
  simp only [Fin.getElem?_fin] at h
  rw [h]; rfl
theorem sum16_num (l : List UInt8) (F : Nat → Bool) (h : F = (preB false l).foldl (stF 16 (fun j => (0x1021#16).getMsbD j)) (fun _ => true)) : numF F 16 = n16 (sum16 l) := by
  have hp : preB false l = l.flatMap bitsHi := by
    unfold preB
    rw [show bitsD false = bitsHi from funext bitsD_hi]
  have hf := reg_fold (0x1021#16) (by omega) (l.flatMap bitsHi) 0xFFFF#16 (fun _ => true) ones16
  rw [sum16_bits] at hf
  subst h
  rw [hp]
  exact numF_all (c16 l 0xFFFF#16) _ hf

set_option maxRecDepth 100000 in
set_option maxHeartbeats 1000000 in
theorem rsum16 (s : ByteArray) (w : World) (h1 : 1 ≤ s.size) (h2 : s.size ≤ 2000) :
    Calls Tryz.prog 142 #[.string s] w fun e w' => e = .returned (.int .u64 (n16 (sum16 s.data.toList) : Nat)) ∧ Below w.heap.size w w' := by
  go_enter Tryz.func142, Tryz.ntmps142
  go_wp2_with fail
  have T1 : (w.alloc (Obj.cells #[Value.int IntKind.i64 0, Value.int IntKind.i64 0, Value.int IntKind.i64 0, Value.int IntKind.i64 1, Value.int IntKind.i64 0, Value.int IntKind.i64 0, Value.int IntKind.i64 0, Value.int IntKind.i64 0, Value.int IntKind.i64 0, Value.int IntKind.i64 0, Value.int IntKind.i64 1, Value.int IntKind.i64 0, Value.int IntKind.i64 0, Value.int IntKind.i64 0, Value.int IntKind.i64 0, Value.int IntKind.i64 1] 3)).ownsRow 0 3 1 (.slice (some ⟨w.heap.size, 0, none⟩) 16 16) 16 turns16 := own_new w 3 #[Value.int IntKind.i64 0, Value.int IntKind.i64 0, Value.int IntKind.i64 0, Value.int IntKind.i64 1, Value.int IntKind.i64 0, Value.int IntKind.i64 0, Value.int IntKind.i64 0, Value.int IntKind.i64 0, Value.int IntKind.i64 0, Value.int IntKind.i64 0, Value.int IntKind.i64 1, Value.int IntKind.i64 0, Value.int IntKind.i64 0, Value.int IntKind.i64 0, Value.int IntKind.i64 0, Value.int IntKind.i64 1] (by unfold maxLen; simp)
  have B1 := below_new (Below.refl _ w) (Obj.cells #[Value.int IntKind.i64 0, Value.int IntKind.i64 0, Value.int IntKind.i64 0, Value.int IntKind.i64 1, Value.int IntKind.i64 0, Value.int IntKind.i64 0, Value.int IntKind.i64 0, Value.int IntKind.i64 0, Value.int IntKind.i64 0, Value.int IntKind.i64 0, Value.int IntKind.i64 1, Value.int IntKind.i64 0, Value.int IntKind.i64 0, Value.int IntKind.i64 0, Value.int IntKind.i64 0, Value.int IntKind.i64 1] 3)
  generalize w.alloc (Obj.cells #[Value.int IntKind.i64 0, Value.int IntKind.i64 0, Value.int IntKind.i64 0, Value.int IntKind.i64 1, Value.int IntKind.i64 0, Value.int IntKind.i64 0, Value.int IntKind.i64 0, Value.int IntKind.i64 0, Value.int IntKind.i64 0, Value.int IntKind.i64 0, Value.int IntKind.i64 1, Value.int IntKind.i64 0, Value.int IntKind.i64 0, Value.int IntKind.i64 0, Value.int IntKind.i64 0, Value.int IntKind.i64 1] 3) = wa at *
  refine (rbits s false _ h2).mono ?_
  rintro e w2 ⟨v, rfl, hown, hb2⟩
  obtain ⟨g, cap, rfl, hgb⟩ := own_slice hown (by omega)
  have T2 := Lib.hid (own_keepS T1 hb2)
  have O2 := Lib.hid (own_zero hown)
  have B2 := below_next B1 hb2
  clear T1 B1 hb2 hown
  go_wp2_with fail
  refine (rsum 16 (8 * s.size) g cap w.heap.size 16 (preB false s.data.toList) (fun j => (0x1021#16).getMsbD j) turns16 _ (by omega) (by omega) (by rw [preB_length, Array.length_toList]; rfl) (by omega) O2.out T2.out turns_reg).mono ?_
  rintro e w3 ⟨xs, rfl, hown3, hreg, hb3⟩
  have B3 := below_next B2 hb3
  obtain ⟨F, hF⟩ : ∃ F, F = (preB false s.data.toList).foldl (stF 16 (fun j => (0x1021#16).getMsbD j)) (fun _ => true) := ⟨_, rfl⟩
  rw [← hF] at hreg
  have O3 := Lib.hid (And.intro (own_zero hown3) hreg)
  have HF := Lib.hid hF
  clear hF hreg hown3 hb3 B2 O2 T2
  go_wp2_with fail
  refine (rnumber 16 _ 16 F xs _ (by omega) O3.out.1 O3.out.2).mono ?_
  rintro e w4 ⟨rfl, rfl⟩
  rw [sum16_num _ F HF.out]
  go_wp2_with fail
  go_ret
  exact ⟨rfl, B3⟩

theorem guard_num (n : Nat) (hn : n < 18446744073709551616) : (65535 - n16 (sum16 (putL n 6))) * 281474976710656 + n % 281474976710656 = guardN n := by
  have hc : n16 (check n) = 65535 - n16 (sum16 (putL n 6)) := by
    unfold check n16
    rw [BitVec.toNat_not]
  have hl := n16_lt (check n)
  unfold guardN withN
  rw [if_pos (by unfold okF; omega), ← hc]
  have e1 : (48 : Int).toNat = 48 := rfl
  have e2 : (16 : Int).toNat = 16 := rfl
  rw [e1, e2]
  omega

set_option maxHeartbeats 1000000 in
theorem rguard (n : Nat) (w : World) (hn : n < 18446744073709551616) :
    Calls Tryz.prog 126 #[.int .u64 n] w fun e w' => e = .returned (.int .u64 (guardN n : Nat)) ∧ Below w.heap.size w w' := by
  obtain ⟨r, hr, hr2⟩ : ∃ r : Nat, (n : Int) % 281474976710656 = (r : Int) ∧ r = n % 281474976710656 := ⟨n % 281474976710656, by omega, rfl⟩
  have hrl : r < 281474976710656 := by omega
  have hg := guard_num n hn
  rw [← hr2] at hg
  have hput : putL r 6 = putL n 6 := by rw [hr2]; exact putL_mod n 6 6 (by omega)
  rw [← hput] at hg
  have HG := Lib.hid hg
  have HP := Lib.hid hput
  clear hg hput hr2
  go_enter Tryz.func126, Tryz.ntmps126
  go_wp2_with fail
  refine (rput_any r 6 _ (by omega) (by omega) (by omega)).mono ?_
  rintro e w1 ⟨rfl, hb1⟩
  rw [show clamp8 6 = 6 from rfl]
  go_wp2_with fail
  refine (rsum16 _ _ (by rw [size_is3, putL_length]; omega) (by rw [size_is3, putL_length]; omega)).mono ?_
  rintro e w2 ⟨rfl, hb2⟩
  rw [show (ByteArray.mk (putL r 6).toArray).data.toList = putL r 6 by simp]
  have hl := n16_lt (sum16 (putL r 6))
  have hgc : ((65535 - (n16 (sum16 (putL r 6)) : Int)) * 281474976710656 + (r : Int)) = ((guardN n : Nat) : Int) := by rw [← HG.out]; omega
  generalize n16 (sum16 (putL r 6)) = c at *
  have B2 := below_next hb1 hb2
  clear hb1 hb2
  have HGC := Lib.hid hgc
  clear hgc
  go_wp2_with fail
  rw [HGC.out]
  go_ret
  exact ⟨rfl, B2⟩

end Go.Proofs.YtdgcninmpcmdcaaGreat
