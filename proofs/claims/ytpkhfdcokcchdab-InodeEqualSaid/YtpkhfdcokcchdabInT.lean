/-
  Layer 16: an inode that a law takes, opened; InodeBack.
-/
import Derived.Test.YtpkhfdcokcchdabInS
import Derived.Test.YtpkhfdcokcchdabFrameJ
namespace Go.Proofs.Ytpkhfdcokcchdab
open Go.ChangeShapes Go.WideShapes Go.ChangeAt Go.RowKit
set_option linter.unusedVariables false

theorem okWide_str {P : Program} {w : World} {r : Reach} {base : Nat} {t : TypeId} {v : Value} {fs : Array Field} (ht : P.underlying t = some (.struct fs)) (h : Value.okWide P w r base t v) : ∃ cs, v = .agg cs ∧ cs.size = P.cellsOf t := by
  simp only [Value.okWide, ht] at h
  obtain ⟨cs, h1, h2, _⟩ := h
  exact ⟨cs, h1, h2⟩
theorem open_nrows_raw {H : Type} {enc : TypeId × Value → H} {P : Program} {w : World} {base : Nat} {held : Bool} {t e i : TypeId} {cs : List Value} {k fuel : Nat} {x : DataW H × List MemPlace}
    (ht : P.underlying t = some (.slice e)) (he : P.underlying e = some (.array k i)) (hii : P.underlying i = some (.int .i64)) (hc1 : P.cellsOf i = 1) (ce : P.cellsOf e = k) (hk : 0 < k)
    (hq : DataW.trod enc P w base (fun _ => true) held fuel t cs = some x) : ∃ v, cs = [v] ∧ SlN k w v := by
  rcases DataW.trod_slice ht hq with ⟨hcs, _⟩ | ⟨a, len, cap, elems, rest, n, _, hcs, _, hb, hl, hm, hlen, hel, _, _⟩
  · exact ⟨_, hcs, .inl ⟨none, 0, rfl, fun _ => rfl, Nat.zero_le _⟩⟩
  · refine ⟨_, hcs, ?_⟩
    by_cases hz : len = 0
    · subst hz
      exact .inl ⟨some a, cap, rfl, (fun e => by cases e), hm⟩
    · have each : ∀ i, ∃ y : Nat → Int, i < len → ∀ j, j < k → w.cell? ((a.add (i * k)).add j) = some (.int .i64 (y j)) ∧ (-9223372036854775808 ≤ y j ∧ y j ≤ 9223372036854775807) := by
        intro i
        by_cases hi : i < len
        · have q := hel i hi
          rw [ce, List.getElem?_eq_getElem (by omega), Option.bind_eq_some_iff] at q
          obtain ⟨cs', hc', hy⟩ := q
          obtain ⟨_, hlc, hc2⟩ := World.cells?_some hc'
          obtain ⟨y, hy1⟩ := open_nrow he hii hc1 hy (by simpa using hlc)
          exact ⟨y, fun _ j hj => ⟨(hc2 j hj).trans (hy1 j hj).1, (hy1 j hj).2⟩⟩
        · exact ⟨fun _ => 0, fun q => absurd q hi⟩
      obtain ⟨b, off, spot⟩ := a
      have hspot : spot = none := by
        obtain ⟨y, e0⟩ := each 0
        simpa [Addr.add] using World.cell?_spot (e0 (by omega) 0 hk).1
      subst hspot
      have hcl : ∀ i j, ((⟨b, off, none⟩ : Addr).add (i * k)).add j = ⟨b, off + i * k + j, none⟩ := fun i j => by rw [add_plain, add_plain]
      refine .inr ⟨b, off, len, cap, fun i => Classical.choose (each i), rfl, by omega, hl, hm, ?_, fun i hi j hj => ?_⟩
      · obtain ⟨y, e0⟩ := each 0
        have e1 := (e0 (by omega) 0 hk).1
        rw [hcl] at e1
        exact block_lt_of_cell e1
      · have := Classical.choose_spec (each i) hi j hj
        rw [hcl] at this
        exact this
/-- An inode that a law takes. -/
def InoArg (w : World) (v : Value) : Prop :=
  ∃ (k : Nat) (l s : Int) (vb : Value) (t : ByteArray), v = .agg #[.int .u8 k, .int .i64 l, .int .i64 s, vb, .string t] ∧ k < 256 ∧ (-9223372036854775808 ≤ l ∧ l ≤ 9223372036854775807) ∧ (-9223372036854775808 ≤ s ∧ s ≤ 9223372036854775807) ∧ SlN 2 w vb ∧ t.size ≤ maxLen
theorem open_inode {H : Type} {enc : TypeId × Value → H} {P : Program} {w : World} {base : Nat} {held : Bool} {T eb ib : TypeId} {fs : Array Field} {f0 f1 f2 f3 f4 : Field} {v : Value} {b0 : Nat} {d : DataW H} {p : List MemPlace}
    (he : P.underlying T = some (.struct fs)) (h0 : fs[0]? = some f0) (h1 : fs[1]? = some f1) (h2 : fs[2]? = some f2) (h3 : fs[3]? = some f3) (h4 : fs[4]? = some f4)
    (o0 : f0.offset = 0) (o1 : f1.offset = 1) (o2 : f2.offset = 2) (o3 : f3.offset = 3) (o4 : f4.offset = 4)
    (t0 : P.underlying f0.type = some (.int .u8)) (t1 : P.underlying f1.type = some (.int .i64)) (t2 : P.underlying f2.type = some (.int .i64)) (t3 : P.underlying f3.type = some (.slice eb)) (t4 : P.underlying f4.type = some .string)
    (c0 : P.cellsOf f0.type = 1) (c1 : P.cellsOf f1.type = 1) (c2 : P.cellsOf f2.type = 1) (c3 : P.cellsOf f3.type = 1) (c4 : P.cellsOf f4.type = 1) (cT : P.cellsOf T = 5)
    (te : P.underlying eb = some (.array 2 ib)) (ti : P.underlying ib = some (.int .i64)) (ci : P.cellsOf ib = 1) (ce : P.cellsOf eb = 2)
    (hv : Value.okWide P w .any b0 T v) (h : DataW.Trod enc P w base (fun _ => true) held T v d p) : InoArg w v := by
  obtain ⟨cs, rfl, hsz⟩ := okWide_str he hv
  obtain ⟨fuel, hf⟩ := h
  have hf' : DataW.trod enc P w base (fun _ => true) held fuel T cs.toList = some (d, p) := hf
  obtain ⟨ys, n, _, _, hl, hy, hi⟩ := DataW.trod_struct he hf'
  have hsf : 4 < fs.size := (Array.getElem?_eq_some_iff.1 h4).1
  have key : ∀ (i : Nat) (v : Value), (cs.toList.drop i).take 1 = [v] → cs.toList[i]? = some v := fun i v hd => by
    have : (List.take 1 (List.drop i cs.toList))[0]? = some v := by rw [hd]; rfl
    rw [List.getElem?_take_of_lt (by omega), List.getElem?_drop, Nat.add_zero] at this
    exact this
  have r0 := hi 0 f0 h0
  have r1 := hi 1 f1 h1
  have r2 := hi 2 f2 h2
  have r3 := hi 3 f3 h3
  have r4 := hi 4 f4 h4
  rw [o0, c0, List.getElem?_eq_getElem (by omega)] at r0
  rw [o1, c1, List.getElem?_eq_getElem (by omega)] at r1
  rw [o2, c2, List.getElem?_eq_getElem (by omega)] at r2
  rw [o3, c3, List.getElem?_eq_getElem (by omega)] at r3
  rw [o4, c4, List.getElem?_eq_getElem (by omega)] at r4
  obtain ⟨k, hk, _, wk⟩ := DataW.trod_int t0 r0
  obtain ⟨l, hl1, _, wl⟩ := DataW.trod_int t1 r1
  obtain ⟨s, hs, _, ws⟩ := DataW.trod_int t2 r2
  obtain ⟨vb, hvb, sb⟩ := open_nrows_raw (k := 2) t3 te ti ci ce (by omega) r3
  obtain ⟨t, ht, _, wt⟩ := DataW.trod_string t4 r4
  have b8 := bounds_u8 wk
  obtain ⟨kn, rfl⟩ := Int.eq_ofNat_of_zero_le b8.1
  refine ⟨kn, l, s, vb, t, ?_, by omega, bounds_i64 wl, bounds_i64 ws, sb, wt⟩
  have k0 := key 0 _ hk
  have k1 := key 1 _ hl1
  have k2 := key 2 _ hs
  have k3 := key 3 _ hvb
  have k4 := key 4 _ ht
  have hlen : cs.toList.length = 5 := by simpa [cT] using hsz
  have : cs.toList = [.int .u8 kn, .int .i64 l, .int .i64 s, vb, .string t] := by
    match hm : cs.toList, hlen with
    | [x0, x1, x2, x3, x4], _ =>
      rw [hm] at k0 k1 k2 k3 k4
      simp at k0 k1 k2 k3 k4
      subst k0 k1 k2 k3 k4
      rfl
  rw [← this]
/-- The pairs of a slice that a law takes. -/
theorem sl2_of {w : World} {v : Value} (h : SlN 2 w v) : ∃ (l : List (Int × Int)) (ao : Option Addr) (cap : Nat), v = .slice ao l.length cap ∧ Sl2 w (.slice ao l.length cap) l := by
  rcases h with ⟨ao, cap, rfl, hn, hm⟩ | ⟨b, off, n, cap, f, rfl, h0, hc, hm, hb, hx⟩
  · exact ⟨[], ao, cap, rfl, ao, cap, rfl, Rd2.nil _ _, Nat.zero_le _, hm, hn⟩
  · have hl : ((List.range n).map fun i => (f i 0, f i 1)).length = n := by simp
    refine ⟨(List.range n).map fun i => (f i 0, f i 1), some ⟨b, off, none⟩, cap, by rw [hl], some ⟨b, off, none⟩, cap, rfl, fun i e hi => ?_, by rw [hl]; exact hc, hm, fun q => by cases q⟩
    have hin : i < n := by
      have := (List.getElem?_eq_some_iff.1 hi).1
      simpa using this
    rw [List.getElem?_map, List.getElem?_range hin] at hi
    simp at hi
    subst hi
    exact ⟨b, off, rfl, hb, (hx i hin 0 (by omega)).1, (hx i hin 1 (by omega)).1⟩
theorem walk_InodeBack (v0 : Value) (a1 : Int) (s2 : ByteArray) {w : World} (s0 : InoArg w v0) (w1 : (Lit.int .u16 a1).wf = true) (w2 : s2.size ≤ maxLen) (_ : s2.size ≤ reachBytes) :
    Calls Try.prog 4 #[v0, .int .u16 a1, .string s2] w fun e w' => e = .returned (.bool true) ∧ Below w.heap.size w w' := by
  obtain ⟨k, l, s, vb, t, rfl, hk, _, _, sb, ht⟩ := s0
  obtain ⟨bl, ao, cap, rfl, hs⟩ := sl2_of sb
  exact (iback_any k l s bl t bl.length ao cap a1 s2 w hs ht hk (bounds_u16 w1) w2).mono fun _ _ q => ⟨q.1, q.2.below0⟩

end Go.Proofs.Ytpkhfdcokcchdab
