/-
  PmPlays: its acts, opened; the walk.
-/
import Derived.Test.YtphaaebbofgdnaaPmRh
import Derived.Test.YtphaaebbofgdnaaFrameT
namespace Go.Proofs.Ytphaaebbofgdnaa
open Go.ChangeShapes Go.WideShapes Go.ChangeAt Go.RowKit

structure ActS where
  d : Int
  z : Int
  v : Nat
  ao : Option Addr
  kl : Nat
  kc : Nat
  kp : Nat → Bool
def ActIs (w : World) (x : ActS) : Prop :=
  (-9223372036854775808 ≤ x.d ∧ x.d ≤ 9223372036854775807) ∧ (-9223372036854775808 ≤ x.z ∧ x.z ≤ 9223372036854775807) ∧ x.v < 18446744073709551616 ∧
  (∀ j, j < x.kl → ∃ b o, x.ao = some ⟨b, o, none⟩ ∧ b < w.heap.size ∧ w.cell? ⟨b, o + j, none⟩ = some (.bool (x.kp j))) ∧ x.kl ≤ x.kc ∧ x.kc ≤ maxLen ∧ (x.ao = none → x.kc = 0)
/-- The cells of an act from offset o on. -/
def ActAt (w : World) (b o : Nat) (x : ActS) : Prop :=
  w.cell? ⟨b, o, none⟩ = some (.int .i64 x.d) ∧ w.cell? ⟨b, o + 1, none⟩ = some (.int .i64 x.z) ∧ w.cell? ⟨b, o + 2, none⟩ = some (.int .u64 (x.v : Int)) ∧ w.cell? ⟨b, o + 3, none⟩ = some (.slice x.ao x.kl x.kc)
def SlA (w : World) (v : Value) : Prop :=
  (∃ ao cap, v = .slice ao 0 cap ∧ (ao = none → cap = 0) ∧ cap ≤ maxLen) ∨
  ∃ b off n cap, ∃ xs : Nat → ActS, v = .slice (some ⟨b, off, none⟩) n cap ∧ 0 < n ∧ n ≤ cap ∧ cap ≤ maxLen ∧ b < w.heap.size ∧ ∀ i, i < n → ActIs w (xs i) ∧ ActAt w b (off + i * 4) (xs i)

theorem open_act {H : Type} {enc : TypeId × Value → H} {P : Program} {w : World} {base : Nat} {held : Bool} {e eb : TypeId} {fs : Array Field} {f0 f1 f2 f3 : Field} {cs : List Value} {x : DataW H × List MemPlace} {fuel : Nat}
    (he : P.underlying e = some (.struct fs)) (h0 : fs[0]? = some f0) (h1 : fs[1]? = some f1) (h2 : fs[2]? = some f2) (h3 : fs[3]? = some f3) (o0 : f0.offset = 0) (o1 : f1.offset = 1) (o2 : f2.offset = 2) (o3 : f3.offset = 3)
    (t0 : P.underlying f0.type = some (.int .i64)) (t1 : P.underlying f1.type = some (.int .i64)) (t2 : P.underlying f2.type = some (.int .u64)) (t3 : P.underlying f3.type = some (.slice eb)) (tb : P.underlying eb = some .bool)
    (c0 : P.cellsOf f0.type = 1) (c1 : P.cellsOf f1.type = 1) (c2 : P.cellsOf f2.type = 1) (c3 : P.cellsOf f3.type = 1) (cb : P.cellsOf eb = 1)
    (h : DataW.trod enc P w base (fun _ => true) held fuel e cs = some x) :
    ∃ y : ActS, ActIs w y ∧ cs[0]? = some (.int .i64 y.d) ∧ cs[1]? = some (.int .i64 y.z) ∧ cs[2]? = some (.int .u64 (y.v : Int)) ∧ cs[3]? = some (.slice y.ao y.kl y.kc) := by
  obtain ⟨ys, n, _, _, hl, hy, hi⟩ := DataW.trod_struct he h
  have hsz : 3 < fs.size := (Array.getElem?_eq_some_iff.1 h3).1
  have key : ∀ (i : Nat) (f : Field) (v : Value), fs[i]? = some f → f.offset = i → P.cellsOf f.type = 1 → (cs.drop i).take 1 = [v] → cs[i]? = some v := fun i f v _ _ _ hd => by
    have : (List.take 1 (List.drop i cs))[0]? = some v := by rw [hd]; rfl
    rw [List.getElem?_take_of_lt (by omega), List.getElem?_drop, Nat.add_zero] at this
    exact this
  have r0 := hi 0 f0 h0
  have r1 := hi 1 f1 h1
  have r2 := hi 2 f2 h2
  have r3 := hi 3 f3 h3
  rw [o0, c0, List.getElem?_eq_getElem (by omega)] at r0
  rw [o1, c1, List.getElem?_eq_getElem (by omega)] at r1
  rw [o2, c2, List.getElem?_eq_getElem (by omega)] at r2
  rw [o3, c3, List.getElem?_eq_getElem (by omega)] at r3
  obtain ⟨d, hd, _, wd⟩ := DataW.trod_int t0 r0
  obtain ⟨z, hz, _, wz⟩ := DataW.trod_int t1 r1
  obtain ⟨v, hv, _, wv⟩ := DataW.trod_int t2 r2
  obtain ⟨kv, kl, kp, hk, ao, kc, rfl, q1, q2, q3, q4, q5, q6⟩ := open_bl_raw t3 tb cb r3
  obtain ⟨u, rfl, hu⟩ := natU64 wv
  exact ⟨⟨d, z, u, ao, kl, kc, kp⟩, ⟨bounds_i64 wd, bounds_i64 wz, hu, q1, q4, q5, q6⟩, key 0 f0 _ h0 o0 c0 hd, key 1 f1 _ h1 o1 c1 hz, key 2 f2 _ h2 o2 c2 hv, key 3 f3 _ h3 o3 c3 hk⟩

theorem open_acts {H : Type} {enc : TypeId × Value → H} {P : Program} {w : World} {base : Nat} {held : Bool} {t e eb : TypeId} {fs : Array Field} {f0 f1 f2 f3 : Field} {v : Value} {b0 : Nat} {d : DataW H} {p : List MemPlace}
    (ht : P.underlying t = some (.slice e)) (he : P.underlying e = some (.struct fs)) (h0 : fs[0]? = some f0) (h1 : fs[1]? = some f1) (h2 : fs[2]? = some f2) (h3 : fs[3]? = some f3) (o0 : f0.offset = 0) (o1 : f1.offset = 1) (o2 : f2.offset = 2) (o3 : f3.offset = 3)
    (t0 : P.underlying f0.type = some (.int .i64)) (t1 : P.underlying f1.type = some (.int .i64)) (t2 : P.underlying f2.type = some (.int .u64)) (t3 : P.underlying f3.type = some (.slice eb)) (tb : P.underlying eb = some .bool)
    (c0 : P.cellsOf f0.type = 1) (c1 : P.cellsOf f1.type = 1) (c2 : P.cellsOf f2.type = 1) (c3 : P.cellsOf f3.type = 1) (cb : P.cellsOf eb = 1) (ce : P.cellsOf e = 4)
    (hv : Value.okWide P w .any b0 t v) (h : DataW.Trod enc P w base (fun _ => true) held t v d p) : SlA w v := by
  obtain ⟨a0, len, cap, rfl⟩ := okWide_slice ht hv
  obtain ⟨fuel, hf⟩ := h
  rcases DataW.trod_slice ht hf with ⟨hcs, _⟩ | ⟨a, len', cap', elems, rest, n, _, hcs, _, hb, hl, hm, hlen, hel, _, _⟩
  · simp [Value.cells] at hcs
    obtain ⟨rfl, rfl, rfl⟩ := hcs
    exact .inl ⟨none, 0, rfl, fun _ => rfl, Nat.zero_le _⟩
  · simp [Value.cells] at hcs
    obtain ⟨rfl, rfl, rfl⟩ := hcs
    by_cases hz : len = 0
    · subst hz
      exact .inl ⟨some a, cap, rfl, (fun e => by cases e), hm⟩
    · have each : ∀ i, i < len → ∃ y : ActS, ActIs w y ∧ w.cell? ((a.add (i * 4)).add 0) = some (.int .i64 y.d) ∧ w.cell? ((a.add (i * 4)).add 1) = some (.int .i64 y.z) ∧ w.cell? ((a.add (i * 4)).add 2) = some (.int .u64 (y.v : Int)) ∧ w.cell? ((a.add (i * 4)).add 3) = some (.slice y.ao y.kl y.kc) := by
        intro i hi
        have q := hel i hi
        rw [ce, List.getElem?_eq_getElem (by omega), Option.bind_eq_some_iff] at q
        obtain ⟨cs', hc', hy⟩ := q
        obtain ⟨_, _, hc2⟩ := World.cells?_some hc'
        obtain ⟨y, hy1, e0, e1, e2, e3⟩ := open_act he h0 h1 h2 h3 o0 o1 o2 o3 t0 t1 t2 t3 tb c0 c1 c2 c3 cb hy
        exact ⟨y, hy1, (hc2 0 (by omega)).trans e0, (hc2 1 (by omega)).trans e1, (hc2 2 (by omega)).trans e2, (hc2 3 (by omega)).trans e3⟩
      obtain ⟨b, off, spot⟩ := a
      have hspot : spot = none := by
        obtain ⟨y, _, e0, _⟩ := each 0 (by omega)
        simpa [Addr.add] using World.cell?_spot e0
      subst hspot
      have hcl : ∀ i k, ((⟨b, off, none⟩ : Addr).add (i * 4)).add k = ⟨b, off + i * 4 + k, none⟩ := fun i k => by rw [add_plain, add_plain]
      have each2 : ∀ i, i < len → ∃ y : ActS, ActIs w y ∧ ActAt w b (off + i * 4) y := fun i hi => by
        obtain ⟨y, y1, e0, e1, e2, e3⟩ := each i hi
        rw [hcl] at e0 e1 e2 e3
        exact ⟨y, y1, e0, e1, e2, e3⟩
      refine .inr ⟨b, off, len, cap, fun i => if hi : i < len then Classical.choose (each2 i hi) else ⟨0, 0, 0, none, 0, 0, fun _ => false⟩, rfl, by omega, hl, hm, ?_, fun i hi => ?_⟩
      · obtain ⟨y, _, e0, _⟩ := each2 0 (by omega)
        exact block_lt_of_cell e0
      · dsimp only
        rw [dif_pos hi]
        exact Classical.choose_spec (each2 i hi)

set_option maxRecDepth 100000 in
set_option maxHeartbeats 8000000 in
theorem plays_some (lz : Int) (hlz : -9223372036854775808 ≤ lz ∧ lz ≤ 9223372036854775807) (b off L cap : Nat) (xs : Nat → ActS) (w : World) (hpos : 0 < L) (hcap : L ≤ cap) (hmax : cap ≤ maxLen) (hlt : b < w.heap.size) (hx : ∀ i, i < L → ActIs w (xs i) ∧ ActAt w b (off + i * 4) (xs i)) :
    Calls Try.prog 3 #[.int .i64 lz, .slice (some ⟨b, off, none⟩) L cap] w fun e w' => e = .returned (.bool true) ∧ Gr [] w w' := by
  obtain ⟨M, hM⟩ : ∃ M, M = min L 80 := ⟨_, rfl⟩
  have hmn := minIsR Try.prog L M 80 80 rfl hM
  have hM1 : M ≤ L := by omega
  have hM2 : M ≤ 80 := by omega
  have hmx := max0 Try.prog
  obtain ⟨n, hn, hn1, hn4⟩ : ∃ n : Nat, 1 + mx lz % 4 = (n : Int) ∧ 1 ≤ n ∧ n ≤ 4 := ⟨(1 + mx lz % 4).toNat, by have := mx_nonneg lz; omega, by have := mx_nonneg lz; omega, by have := mx_nonneg lz; omega⟩
  have hn0 := mx_nonneg lz
  have HX := Lib.hid hx
  unfold maxLen at hmax
  clear hx hM
  go_enter Try.func3, Try.ntmps3
  go_wp2_with fail
  refine (pmnew_yes n _ (by omega) (by omega)).mono ?_
  rintro e w1 ⟨a, rfl, d1, hlo, g1⟩
  have HLO := Lib.hid hlo
  clear hlo
  go_wp2_with fail
  refine (rnew_any n _ (by omega) (by omega)).mono ?_
  rintro e w2 ⟨r, rfl, r2, hro, g2⟩
  have HSEP := Lib.hid (show ∀ x ∈ a.all, x ∉ r.all from fun x hx hr => by have := d1.lt x hx; have := hro x hr; omega)
  have HRO := Lib.hid (show ∀ x ∈ r.all, w.heap.size ≤ x from fun x hx => by have := hro x hx; have := g1.size; omega)
  have d2 := d1.gr0 g2
  have g2 := g1.trans g2
  have R2 : RefIs w2 r (newD n) := ⟨_, r2, Says.new n⟩
  clear d1 g1 r2 hro
  go_wp2_with fail
  refine (wakes03 _).mono ?_
  rintro e w3 ⟨rfl, q3⟩
  have HD := Lib.hid (And.intro (d2.gr0 q3) (And.intro (R2.gr0 q3) (g2.trans q3)))
  clear d2 R2 g2 q3
  go_wp2_with fail
  clear hmn hmx hn hn0
  go_loopw [37] (fun i wr => ∃ (k : Nat) (D : DevS), k ≤ M ∧ i = .int .i64 k ∧ DevIs wr a D ∧ RefIs wr r D ∧ Bnd D k ∧ Gr [] w wr) (fun i _ => M - (intOf i).toNat)
  case atStart => exact ⟨0, newD n, by omega, rfl, HD.out.1, HD.out.2.1, ⟨Nat.le_refl _, fun l => ⟨Int.le_refl _, Int.le_refl _⟩⟩, HD.out.2.2⟩
  case round =>
    clear HD
    obtain ⟨k, D, hk, rfl, d4, r4, b4, g4⟩ := hrel
    by_cases hkM : k < M
    · have hx := HX.out k (by omega)
      have HA := Lib.hid hx.1
      obtain ⟨e0, e1, e2, e3⟩ := hx.2
      have e0 := (g4.cell0 hlt).trans e0
      have e1 := (g4.cell0 hlt).trans e1
      have e2 := (g4.cell0 hlt).trans e2
      have e3 := (g4.cell0 hlt).trans e3
      obtain ⟨x, hxe⟩ : ∃ x, xs k = x := ⟨_, rfl⟩
      rw [hxe] at HA e0 e1 e2 e3
      clear hx hxe
      obtain ⟨xd, xz, xv, xao, xkl, xkc, xkp⟩ := x
      dsimp only at e0 e1 e2 e3
      have hd : decide ((k : Int) < (M : Int)) = true := by simpa using hkM
      have hk0 : (0 : Int) ≤ (k : Int) := by omega
      have hkb : (k : Int) < (M : Int) := by omega
      have HD := Lib.hid (And.intro d4 (And.intro r4 (And.intro b4 g4)))
      have X := Holds.new wr #[Value.int .i64 xd, .int .i64 xz, .int .u64 (xv : Int), .slice xao xkl xkc] 33
      have y0 : (wr.alloc (.cells #[Value.int .i64 xd, .int .i64 xz, .int .u64 (xv : Int), .slice xao xkl xkc] 33)).cell? ⟨wr.heap.size, 0, none⟩ = some (.int .i64 xd) := X.cell 0
      have y1 : (wr.alloc (.cells #[Value.int .i64 xd, .int .i64 xz, .int .u64 (xv : Int), .slice xao xkl xkc] 33)).cell? ⟨wr.heap.size, 1, none⟩ = some (.int .i64 xz) := X.cell 1
      have y2 : (wr.alloc (.cells #[Value.int .i64 xd, .int .i64 xz, .int .u64 (xv : Int), .slice xao xkl xkc] 33)).cell? ⟨wr.heap.size, 2, none⟩ = some (.int .u64 (xv : Int)) := X.cell 2
      have y3 : (wr.alloc (.cells #[Value.int .i64 xd, .int .i64 xz, .int .u64 (xv : Int), .slice xao xkl xkc] 33)).cell? ⟨wr.heap.size, 3, none⟩ = some (.slice xao xkl xkc) := X.cell 3
      have g5 : Gr [] wr (wr.alloc (.cells #[Value.int .i64 xd, .int .i64 xz, .int .u64 (xv : Int), .slice xao xkl xkc] 33)) := (Gr.refl [] wr).alloc _
      have HG5 := Lib.hid g5
      have HDO := Lib.hid (does_any a r D k xd xz xv xao xkl xkc xkp _ (d4.gr0 g5) (r4.gr0 g5) HSEP.out b4 (by omega) HA.out.2.1 HA.out.2.2.1 (fun j hj => by
        obtain ⟨b', o', q1, q2, q3⟩ := HA.out.2.2.2.1 j hj
        exact ⟨b', o', q1, by have := g4.size; have := g5.size; omega, (fun e => by have := HLO.out _ e; omega), ((g5.cell0 (by have := g4.size; omega)).trans (g4.cell0 q2)).trans q3⟩) HA.out.2.2.2.2.1 HA.out.2.2.2.2.2.1 HA.out.2.2.2.2.2.2)
      clear X d4 r4 b4 g4 g5
      go_wp2_with fail
      clear e0 e1 e2 e3 y0 y1 y2 y3
      refine HDO.out.mono ?_
      rintro e w6 ⟨D', rfl, d6, r6, g6, hn6, b6⟩
      have HS := Lib.hid (same_any a r D' w6 d6 r6 (by have := b6.1; omega))
      have HD6 := Lib.hid (And.intro d6 (And.intro r6 (And.intro b6 (((HD.out.2.2.2.trans HG5.out)).nextN g6 (fun x hx => by
        rcases List.mem_append.1 hx with q | q
        · exact .inr (HLO.out x q)
        · exact .inr (HRO.out x q))))))
      clear d6 r6 g6 b6 hn6 HDO
      go_wp2_with fail
      refine HS.out.mono ?_
      rintro e w7 ⟨rfl, q7⟩
      have HD7 := Lib.hid (And.intro (HD6.out.1.gr0 q7) (And.intro (HD6.out.2.1.gr0 q7) (And.intro HD6.out.2.2.1 (HD6.out.2.2.2.trans q7))))
      clear q7 HS HD6
      go_wp2_with fail
      go_roundw
      case rel => exact ⟨k + 1, D', by omega, by go_num, HD7.out.1, HD7.out.2.1, HD7.out.2.2.1, HD7.out.2.2.2⟩
      case measure => simp [intOf]; omega
    · obtain rfl : k = M := by omega
      have hd : decide ((k : Int) < (k : Int)) = false := by simp
      have HD := Lib.hid g4
      clear d4 r4 b4 g4
      go_wp2_with fail
      go_ret
      exact ⟨rfl, HD.out⟩

set_option maxRecDepth 100000 in
set_option maxHeartbeats 4000000 in
theorem plays_none (lz : Int) (ao : Option Addr) (cap : Nat) (w : World) (hn0 : ao = none → cap = 0) (hmax : cap ≤ maxLen) :
    Calls Try.prog 3 #[.int .i64 lz, .slice ao 0 cap] w fun e w' => e = .returned (.bool true) ∧ Gr [] w w' := by
  have hmn := minIsR Try.prog 0 0 80 80 rfl rfl
  have hmx := max0 Try.prog
  obtain ⟨n, hn, hn1, hn4⟩ : ∃ n : Nat, 1 + mx lz % 4 = (n : Int) ∧ 1 ≤ n ∧ n ≤ 4 := ⟨(1 + mx lz % 4).toNat, by have := mx_nonneg lz; omega, by have := mx_nonneg lz; omega, by have := mx_nonneg lz; omega⟩
  have hm0 := mx_nonneg lz
  have HN := Lib.hid hn0
  unfold maxLen at hmax
  clear hn0
  cases ao with
  | none =>
    obtain rfl := HN.out rfl
    go_enter Try.func3, Try.ntmps3
    go_wp2_with fail
    refine (pmnew_yes n _ (by omega) (by omega)).mono ?_
    rintro e w1 ⟨a, rfl, d1, hlo, g1⟩
    clear hlo d1
    go_wp2_with fail
    refine (rnew_any n _ (by omega) (by omega)).mono ?_
    rintro e w2 ⟨r, rfl, r2, hro, g2⟩
    have g2 := g1.trans g2
    clear g1 r2 hro
    go_wp2_with fail
    refine (wakes03 _).mono ?_
    rintro e w3 ⟨rfl, q3⟩
    have HD := Lib.hid (g2.trans q3)
    clear g2 q3
    go_wp2_with fail
    refine wp_loop_rounds 1 ?_
    rw [rounds_succ]
    go_wp2_with fail
    go_ret
    exact ⟨rfl, HD.out⟩
  | some ad =>
    clear HN
    go_enter Try.func3, Try.ntmps3
    go_wp2_with fail
    refine (pmnew_yes n _ (by omega) (by omega)).mono ?_
    rintro e w1 ⟨a, rfl, d1, hlo, g1⟩
    clear hlo d1
    go_wp2_with fail
    refine (rnew_any n _ (by omega) (by omega)).mono ?_
    rintro e w2 ⟨r, rfl, r2, hro, g2⟩
    have g2 := g1.trans g2
    clear g1 r2 hro
    go_wp2_with fail
    refine (wakes03 _).mono ?_
    rintro e w3 ⟨rfl, q3⟩
    have HD := Lib.hid (g2.trans q3)
    clear g2 q3
    go_wp2_with fail
    refine wp_loop_rounds 1 ?_
    rw [rounds_succ]
    go_wp2_with fail
    go_ret
    exact ⟨rfl, HD.out⟩

theorem walk_PmPlays (a0 : Int) (v1 : Value) {w : World} (w0 : (Lit.int .i64 a0).wf = true) (s1 : SlA w v1) :
    Calls Try.prog 3 #[.int .i64 a0, v1] w fun e w' => e = .returned (.bool true) ∧ Below w.heap.size w w' := by
  rcases s1 with ⟨ao, cap, rfl, hn, hm⟩ | ⟨b, off, n, cap, xs, rfl, h1, h2, h3, h4, h5⟩
  · exact (plays_none a0 ao cap w hn hm).mono fun _ _ q => ⟨q.1, q.2.below0⟩
  · exact (plays_some a0 (bounds_i64 w0) b off n cap xs w h1 h2 h3 h4 h5).mono fun _ _ q => ⟨q.1, q.2.below0⟩

end Go.Proofs.Ytphaaebbofgdnaa
