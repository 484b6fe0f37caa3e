/-
  SnAd: SxA, FrameW.
-/
import Derived.Test.YtifekejcbhllpaaGreatSkAe
import Derived.Test.YtifekejcbhllpaaGreatSkAf
import Derived.Test.YtifekejcbhllpaaGreatSkAg
import Derived.Test.YtifekejcbhllpaaGreatSkAa
import Derived.Test.YtifekejcbhllpaaGreatSkAb
import Derived.Test.YtifekejcbhllpaaGreatSkAc
import Derived.Test.YtifekejcbhllpaaGreatSkAd
import Derived.Test.YtifekejcbhllpaaGreatSkAh
import Derived.Test.YtifekejcbhllpaaGreatSkAi
import Derived.Test.YtifekejcbhllpaaGreatSkAj
import Derived.Test.YtifekejcbhllpaaGreatSkAk
import Derived.Test.YtifekejcbhllpaaGreatSkAl
import Derived.Test.YtifekejcbhllpaaGreatSkAn
import Derived.Test.YtifekejcbhllpaaGreatSkAo
import Derived.Test.YtifekejcbhllpaaGreatSkAm
import Derived.Test.YtifekejcbhllpaaGreatSkAp
import Derived.Test.YtifekejcbhllpaaGreatSkAq
import Derived.Test.YtifekejcbhllpaaGreatSkAr
import Derived.Test.YtifekejcbhllpaaGreatSkAt
import Derived.Test.YtifekejcbhllpaaGreatSkAu
import Derived.Test.YtifekejcbhllpaaGreatSkAs
import Derived.Test.YtifekejcbhllpaaGreatSkAv
import Derived.Test.YtifekejcbhllpaaGreatSkAw
import Derived.Test.YtifekejcbhllpaaGreatSkAx
import Derived.Test.YtifekejcbhllpaaGreatSkAy
import Derived.Test.YtifekejcbhllpaaGreatSkAz
import Derived.Test.YtifekejcbhllpaaGreatSkBa
import Derived.Test.YtifekejcbhllpaaGreatSkBb
import Derived.Test.YtifekejcbhllpaaGreatSkBc
import Derived.Test.YtifekejcbhllpaaGreatSkBd
import Derived.Test.YtifekejcbhllpaaGreatSkBe
import Derived.Test.YtifekejcbhllpaaGreatSkBf
import Derived.Test.YtifekejcbhllpaaGreatSkBg
import Derived.Test.YtifekejcbhllpaaGreatSkBh
import Derived.Test.YtifekejcbhllpaaGreatSkBi
import Derived.Test.YtifekejcbhllpaaGreatSkBj
import Derived.Test.YtifekejcbhllpaaGreatSkBk
import Derived.Test.YtifekejcbhllpaaGreatSkBl
import Derived.Test.YtifekejcbhllpaaGreatSkBm
import Derived.Test.YtifekejcbhllpaaGreatSkBn
import Derived.Test.YtifekejcbhllpaaGreatSnAb
import Derived.Test.YtifekejcbhllpaaGreatSnAc
import Derived.Test.YtifekejcbhllpaaGreatSnAa

set_option linter.unusedVariables false

/-
  Layer 11, SpacePlays: what words and texts leave, errors of words, a line that breaks, Open anew.
-/
namespace Go.Proofs.YtifekejcbhllpaaGreat
open Go.RowKit
set_option linter.unusedVariables false

section
variable {B b s8 : ByteArray} {K j q : Nat}
theorem read_back (h : K + b.size ≤ B.size) (hj : j ≤ b.size) : B.extract 0 K ++ (splB B K (b.extract 0 j)).extract K (K + b.size) ++ B.extract (K + b.size) B.size = splB B K (b.extract 0 j) := by
  have sj := ext_size (b := b) (j := 0) (j2 := j) hj (Nat.zero_le _)
  have z : (splB B K (b.extract 0 j)).size = B.size := splB_size (by omega)
  obtain ⟨U, hU⟩ : ∃ U, U = splB B K (b.extract 0 j) := ⟨_, rfl⟩
  rw [← hU] at z ⊢
  have e : (U.extract K (K + b.size)).size = b.size := by rw [ByteArray.size_extract]; omega
  have e1 : B.extract 0 K ++ U.extract K (K + b.size) ++ B.extract (K + b.size) B.size = splB B K (U.extract K (K + b.size)) := by unfold splB; rw [e]
  rw [e1]
  have z2 : (splB B K (U.extract K (K + b.size))).size = B.size := splB_size (by omega)
  refine bs_ext (by omega) fun i hi => ?_
  rw [z2] at hi
  rw [splB_bs (by omega) hi]
  by_cases h1 : i < K
  · rw [if_pos h1, hU, splB_bs (by omega) hi, if_pos h1]
  · rw [if_neg h1]
    by_cases h2 : i < K + b.size
    · rw [if_pos (by omega), bs_extract _ _ _ _ (by omega), show K + (i - K) = i by omega]
    · rw [if_neg (by omega), hU, splB_bs (by omega) hi, if_neg h1, if_neg (by omega)]
theorem wdL_splB (h8 : s8.size = 8) (h64 : B.size % 64 = 0) (hq : 8 * q + 8 ≤ B.size) (hj : 8 * j + 8 ≤ B.size) : wdL (lnQ (splB B (8 * q) s8) (j / 8)).data.toList (j % 8) = if j = q then getL s8.data.toList else wdL (lnQ B (j / 8)).data.toList (j % 8) := by
  have z : (splB B (8 * q) s8).size = B.size := splB_size (by omega)
  rw [word_list (by omega) (by omega)]
  by_cases c : j = q
  · subst c
    rw [if_pos rfl]
    congr 3
    refine bs_ext (by rw [ByteArray.size_extract]; omega) fun i hi => ?_
    rw [ByteArray.size_extract] at hi
    rw [bs_extract _ _ _ _ (by omega), splB_bs (by omega) (by omega), if_neg (by omega), if_pos (by omega), show 8 * j + i - 8 * j = i by omega]
  · rw [if_neg c, word_list (by omega) (by omega)]
    congr 3
    refine bs_ext (by rw [ByteArray.size_extract, ByteArray.size_extract]; omega) fun i hi => ?_
    rw [ByteArray.size_extract] at hi
    rw [bs_extract _ _ _ _ (by omega), bs_extract _ _ _ _ (by omega), splB_bs (by omega) (by omega)]
    by_cases c1 : 8 * j + i < 8 * q
    · rw [if_pos c1]
    · rw [if_neg c1, if_neg (by omega)]
def wd8 (v : Nat) : ByteArray := ⟨(putL v 8).toArray⟩
theorem wd8_size (v : Nat) : (wd8 v).size = 8 := by
  show (putL v 8).toArray.size = 8
  rw [List.size_toArray]
  rfl
theorem wd8_get (v : Nat) (hv : v < 18446744073709551616) : getL (wd8 v).data.toList = v := by
  show getL (putL v 8).toArray.toList = v
  rw [List.toList_toArray, getL_putL]
  exact Nat.mod_eq_of_lt (by omega)
end
section
variable {w w' : World} {X : HtA} {A : FlA} {a : DevA} {C : CfgZ} {gd cm : Bool} {N N' lim sb : Nat} {B : ByteArray}
theorem HSp.weak (h : HSp C X A a gd cm lim sb B N w) : HSp C X A a false cm lim sb B N w := by
  obtain ⟨Y, h1, h2⟩ := h.st
  exact ⟨⟨Y, h1.weak, h2⟩, h.sz, h.hd, h.na, h.pg⟩
/-- The bytes are opened anew: the same. -/
theorem HSp.again (h : HSp C X A a gd true 3 sb B N w) (hN : N < 490000000) : Calls Tryz.prog 17 #[.pointer (some ⟨a.bd, 0, none⟩)] w fun e w' => ∃ (X : HtA) (A : FlA) (sb : Nat), e = .returned (.tuple #[.pointer (some ⟨sb, 0, none⟩), .pointer (some ⟨X.pb, 0, none⟩), .bool true]) ∧ HSp C X A a gd true 3 sb B N w' ∧ (∀ x ∈ sb :: (X.all ++ A.all (cR C)), w.heap.size ≤ x) ∧ Gr [] w w' := by
  obtain ⟨Y, h1, h2⟩ := h.st
  exact open11 (h1.again hN) h.sz h.pg h2
/-- A word is written on a device whose power lasts. -/
theorem spww_any (h : HSp C X A a gd true lim sb B N w) (q v : Nat) (hq : 8 * q + 8 ≤ B.size) (hv : v < 18446744073709551616) (hN : N < 400000000) : Calls Tryz.prog 13 #[.pointer (some ⟨sb, 0, none⟩), .int .i64 ((8 * q : Nat) : Int), .int .u64 (v : Int)] w fun e w' => ∃ x : Int, e = .returned (.int .i64 x) ∧ ((x = 0 ∧ HSp C X A a gd true lim sb (splB B (8 * q) (wd8 v)) (N + 42000) w') ∨ (x = 10 ∧ HSp C X A a gd true lim sb B (N + 42000) w')) ∧ Gr (X.all ++ (A.all (cR C) ++ a.all)) w w' := by
  have HW := Lib.hid (word_in h q hq)
  have hsz := h.sz
  have hpg := h.pg
  have hd := h.hd
  have hna := h.na
  have c0 := h.hd.cell 0
  obtain ⟨Y, h1, h2⟩ := h.st
  have hg : q / 64 < pgC C := by omega
  have hr : q % 64 / 8 < 8 := by omega
  have hm : q % 8 < 8 := by omega
  have HSt := Lib.hid (fun W => spot_any (8 * q) (by omega) W)
  rw [show 8 * q / 512 = q / 64 by omega, show 8 * q % 512 / 64 = q % 64 / 8 by omega] at HSt
  have HPt := Lib.hid ((h1.word hN (q / 64) (q % 64 / 8) hg hr (q % 8) v ⟨hm, hv⟩).mono (R' := fun e w' => ∃ x : Int, e = .returned (.int .i64 x) ∧ ((x = 0 ∧ HSp C X A a gd true lim sb (splB B (8 * q) (wd8 v)) (N + 42000) w') ∨ (x = 10 ∧ HSp C X A a gd true lim sb B (N + 42000) w')) ∧ Gr (X.all ++ (A.all (cR C) ++ a.all)) w w') (by
    rintro e w2 ⟨x, rfl, hx, g2⟩
    refine ⟨x, rfl, ?_, g2⟩
    have hd2 := hd.gr g2 hna
    have z : (splB B (8 * q) (wd8 v)).size = B.size := splB_size (by rw [wd8_size]; omega)
    rcases hx with ⟨rfl, y⟩ | ⟨rfl, _, y⟩ | ⟨_, e, _⟩
    · refine .inl ⟨rfl, ⟨_, y, fun g k hg hk => ?_⟩, by omega, hd2, hna, hpg⟩
      refine tY_is ?_ fun m hm => ?_
      · unfold lnQ
        rw [ByteArray.size_extract]
        omega
      · have e := wdL_splB (B := B) (s8 := wd8 v) (q := q) (j := 64 * g + 8 * k + m) (wd8_size v) (by omega) hq (by omega)
        rw [show (64 * g + 8 * k + m) / 8 = 8 * g + k by omega, show (64 * g + 8 * k + m) % 8 = m by omega, wd8_get v hv] at e
        rw [e]
        have o := (h1.text g k hg hk).2.1 m hm
        rw [h2 g k hg hk] at o
        unfold putQ updF
        by_cases c : 64 * g + 8 * k + m = q
        · rw [if_pos c, if_pos ⟨by omega, by omega⟩, if_pos (by omega)]
        · rw [if_neg c, o]
          by_cases c2 : g = q / 64 ∧ k = q % 64 / 8
          · rw [if_pos c2, if_neg (by omega)]
            obtain ⟨rfl, rfl⟩ := c2
            rfl
          · rw [if_neg c2]
    · exact .inr ⟨rfl, ⟨Y, y, h2⟩, hsz, hd2, hna, hpg⟩
    · exact absurd e (by decide)))
  have t1 : ((8 * q : Nat) : Int).tmod 64 = ((8 * (q % 8) : Nat) : Int) := by rw [Int.tmod_eq_emod_of_nonneg (by omega)]; omega
  obtain ⟨g1, hg1⟩ : ∃ x, x = q / 64 := ⟨_, rfl⟩
  obtain ⟨k1, hk1⟩ : ∃ x, x = q % 64 / 8 := ⟨_, rfl⟩
  obtain ⟨m1, hm1⟩ : ∃ x, x = q % 8 := ⟨_, rfl⟩
  rw [← hg1, ← hk1] at HSt
  rw [← hg1, ← hk1, ← hm1] at HPt
  obtain ⟨m8, hm8⟩ : ∃ x, x = 8 * (q % 8) := ⟨_, rfl⟩
  rw [← hm8] at t1
  obtain ⟨k8, hk8⟩ : ∃ x, x = 8 * q := ⟨_, rfl⟩
  rw [← hk8] at HW HSt HPt t1 ⊢
  have t2 : IntKind.i64.wrap (m8 : Int) = (m8 : Int) := IntWalk.i64_in _ (by omega)
  have t3 : (m8 : Int).tdiv 8 = (m1 : Int) := (Int.ofNat_tdiv m8 8).symm.trans (by omega)
  have t4 : IntKind.i64.wrap (m1 : Int) = (m1 : Int) := IntWalk.i64_in _ (by omega)
  clear h h1 h2 hsz hpg hg hr hm hg1 hk1 hm1 hm8 hk8 hq hd hna
  go_enter Tryz.func13, Tryz.ntmps13
  go_wp2_with fail
  refine HW.out.mono ?_
  rintro e w2 ⟨rfl, rfl⟩
  go_wp2_with fail
  refine (HSt.out _).mono ?_
  rintro e w3 ⟨rfl, rfl⟩
  go_wp2_with fail
  refine HPt.out.mono ?_
  rintro e w4 ⟨x, rfl, q4, g4⟩
  have H4 := Lib.hid (And.intro q4 g4)
  clear q4 g4 HPt
  go_wp2_with fail
  go_ret
  exact ⟨x, rfl, H4.out⟩
/-- The errors of a word's place. -/
theorem wordE_arg (h : HSp C X A a gd cm lim sb B N w) (k : Int) (hk : ¬ k.tmod 8 = 0) (hb : -9223372036854775808 ≤ k ∧ k ≤ 9223372036854775807) : Calls Tryz.prog 40 #[.pointer (some ⟨sb, 0, none⟩), .int .i64 k] w fun e w' => e = .returned (.int .i64 2) ∧ w' = w := by
  obtain ⟨r, hr⟩ : ∃ r, r = k.tmod 8 := ⟨_, rfl⟩
  have t1 : k.tmod 8 = r := hr.symm
  rw [t1] at hk
  have t3 : -8 < r ∧ r < 8 := by
    rw [hr]
    have h1 := Int.tmod_lt_of_pos k (show (0 : Int) < 8 by omega)
    have h2 := Int.lt_tmod_of_pos k (show (0 : Int) < 8 by omega)
    omega
  have t2 : IntKind.i64.wrap r = r := IntWalk.i64_in _ (by omega)
  clear h hr t3
  go_enter Tryz.func40, Tryz.ntmps40
  go_wp2_with fail
  go_ret
  exact ⟨rfl, rfl⟩
theorem wordE_out (h : HSp C X A a gd cm lim sb B N w) (k : Int) (hk : k.tmod 8 = 0) (ho : errW B.size k 8 = 3) : Calls Tryz.prog 40 #[.pointer (some ⟨sb, 0, none⟩), .int .i64 k] w fun e w' => e = .returned (.int .i64 3) ∧ w' = w := by
  have HW := Lib.hid (within_any h k 8)
  rw [ho] at HW
  have t2 : IntKind.i64.wrap 0 = 0 := IntWalk.i64_in _ (by omega)
  clear h ho
  go_enter Tryz.func40, Tryz.ntmps40
  go_wp2_with fail
  refine HW.out.mono ?_
  rintro e w2 ⟨rfl, rfl⟩
  go_wp2_with fail
  go_ret
  exact ⟨rfl, rfl⟩
theorem spword_err (k x : Int) (hx : ¬ x = 0) (hw : Calls Tryz.prog 40 #[.pointer (some ⟨sb, 0, none⟩), .int .i64 k] w fun e w' => e = .returned (.int .i64 x) ∧ w' = w) : Calls Tryz.prog 14 #[.pointer (some ⟨sb, 0, none⟩), .int .i64 k] w fun e w' => e = .returned (.tuple #[.int .u64 0, .int .i64 x]) ∧ w' = w := by
  have HW := Lib.hid hw
  clear hw
  go_enter Tryz.func14, Tryz.ntmps14
  go_wp2_with fail
  refine HW.out.mono ?_
  rintro e w2 ⟨rfl, rfl⟩
  go_wp2_with fail
  go_ret2
  exact ⟨rfl, rfl⟩
theorem spww_err (k x v : Int) (hx : ¬ x = 0) (hw : Calls Tryz.prog 40 #[.pointer (some ⟨sb, 0, none⟩), .int .i64 k] w fun e w' => e = .returned (.int .i64 x) ∧ w' = w) : Calls Tryz.prog 13 #[.pointer (some ⟨sb, 0, none⟩), .int .i64 k, .int .u64 v] w fun e w' => e = .returned (.int .i64 x) ∧ w' = w := by
  have HW := Lib.hid hw
  clear hw
  go_enter Tryz.func13, Tryz.ntmps13
  go_wp2_with fail
  refine HW.out.mono ?_
  rintro e w2 ⟨rfl, rfl⟩
  go_wp2_with fail
  go_ret
  exact ⟨rfl, rfl⟩
end
end Go.Proofs.YtifekejcbhllpaaGreat

/-
  Slices of acts (two integers, a text, a word) that come in as an argument of a law, opened.
-/
namespace Go.Proofs.YtifekejcbhllpaaGreat
open Go.ChangeShapes Go.WideShapes Go.ChangeAt Go.RowKit
set_option linter.unusedVariables false

structure ActS where
  d : Int
  z : Int
  s : ByteArray
  v : Nat
def ActSIs (x : ActS) : Prop :=
  (-9223372036854775808 ≤ x.d ∧ x.d ≤ 9223372036854775807) ∧ (-9223372036854775808 ≤ x.z ∧ x.z ≤ 9223372036854775807) ∧ x.s.size ≤ maxLen ∧ x.v < 18446744073709551616
def ActSAt (w : World) (b o : Nat) (x : ActS) : Prop :=
  w.cell? ⟨b, o, none⟩ = some (.int .i64 x.d) ∧ w.cell? ⟨b, o + 1, none⟩ = some (.int .i64 x.z) ∧ w.cell? ⟨b, o + 2, none⟩ = some (.string x.s) ∧ w.cell? ⟨b, o + 3, none⟩ = some (.int .u64 (x.v : Int))
def SlS (w : World) (v : Value) : Prop :=
  (∃ ao cap, v = .slice ao 0 cap ∧ (ao = none → cap = 0) ∧ cap ≤ maxLen) ∨
  ∃ b off n cap, ∃ xs : Nat → ActS, v = .slice (some ⟨b, off, none⟩) n cap ∧ 0 < n ∧ n ≤ cap ∧ cap ≤ maxLen ∧ b < w.heap.size ∧ ∀ i, i < n → ActSIs (xs i) ∧ ActSAt w b (off + i * 4) (xs i)

theorem open_acts1 {H : Type} {enc : TypeId × Value → H} {P : Program} {w : World} {base : Nat} {held : Bool} {e : TypeId} {fs : Array Field} {f0 f1 f2 f3 : Field} {cs : List Value} {x : DataW H × List MemPlace} {fuel : Nat}
    (he : P.underlying e = some (.struct fs)) (h0 : fs[0]? = some f0) (h1 : fs[1]? = some f1) (h2 : fs[2]? = some f2) (h3 : fs[3]? = some f3)
    (o0 : f0.offset = 0) (o1 : f1.offset = 1) (o2 : f2.offset = 2) (o3 : f3.offset = 3)
    (t0 : P.underlying f0.type = some (.int .i64)) (t1 : P.underlying f1.type = some (.int .i64)) (t2 : P.underlying f2.type = some .string) (t3 : P.underlying f3.type = some (.int .u64))
    (c0 : P.cellsOf f0.type = 1) (c1 : P.cellsOf f1.type = 1) (c2 : P.cellsOf f2.type = 1) (c3 : P.cellsOf f3.type = 1)
    (h : DataW.trod enc P w base (fun _ => true) held fuel e cs = some x) :
    ∃ y : ActS, ActSIs y ∧ cs[0]? = some (.int .i64 y.d) ∧ cs[1]? = some (.int .i64 y.z) ∧ cs[2]? = some (.string y.s) ∧ cs[3]? = some (.int .u64 (y.v : Int)) := by
  obtain ⟨ys, n, _, _, hl, hy, hi⟩ := DataW.trod_struct he h
  have hsz : 3 < fs.size := (Array.getElem?_eq_some_iff.1 h3).1
  have key : ∀ (i : Nat) (v : Value), (cs.drop i).take 1 = [v] → cs[i]? = some v := fun i v hd => by
    have : (List.take 1 (List.drop i cs))[0]? = some v := by rw [hd]; rfl
    rw [List.getElem?_take_of_lt (by omega), List.getElem?_drop, Nat.add_zero] at this
    exact this
  have r0 := hi 0 f0 h0
  have r1 := hi 1 f1 h1
  have r2 := hi 2 f2 h2
  have r3 := hi 3 f3 h3
  rw [o0, c0, List.getElem?_eq_getElem (by omega)] at r0
  rw [o1, c1, List.getElem?_eq_getElem (by omega)] at r1
  rw [o2, c2, List.getElem?_eq_getElem (by omega)] at r2
  rw [o3, c3, List.getElem?_eq_getElem (by omega)] at r3
  obtain ⟨d, hd, _, wd⟩ := DataW.trod_int t0 r0
  obtain ⟨z, hz, _, wz⟩ := DataW.trod_int t1 r1
  obtain ⟨s, hs, _, ws⟩ := DataW.trod_string t2 r2
  obtain ⟨v, hv, _, wv⟩ := DataW.trod_int t3 r3
  obtain ⟨u, rfl, hu⟩ := natU64 wv
  exact ⟨⟨d, z, s, u⟩, ⟨bounds_i64 wd, bounds_i64 wz, ws, hu⟩, key 0 _ hd, key 1 _ hz, key 2 _ hs, key 3 _ hv⟩

theorem open_actss {H : Type} {enc : TypeId × Value → H} {P : Program} {w : World} {base : Nat} {held : Bool} {t e : TypeId} {fs : Array Field} {f0 f1 f2 f3 : Field} {v : Value} {b0 : Nat} {d : DataW H} {p : List MemPlace}
    (ht : P.underlying t = some (.slice e)) (he : P.underlying e = some (.struct fs)) (h0 : fs[0]? = some f0) (h1 : fs[1]? = some f1) (h2 : fs[2]? = some f2) (h3 : fs[3]? = some f3)
    (o0 : f0.offset = 0) (o1 : f1.offset = 1) (o2 : f2.offset = 2) (o3 : f3.offset = 3)
    (t0 : P.underlying f0.type = some (.int .i64)) (t1 : P.underlying f1.type = some (.int .i64)) (t2 : P.underlying f2.type = some .string) (t3 : P.underlying f3.type = some (.int .u64))
    (c0 : P.cellsOf f0.type = 1) (c1 : P.cellsOf f1.type = 1) (c2 : P.cellsOf f2.type = 1) (c3 : P.cellsOf f3.type = 1) (ce : P.cellsOf e = 4)
    (hv : Value.okWide P w .any b0 t v) (h : DataW.Trod enc P w base (fun _ => true) held t v d p) : SlS w v := by
  obtain ⟨a0, len, cap, rfl⟩ := okWide_slice ht hv
  obtain ⟨fuel, hf⟩ := h
  rcases DataW.trod_slice ht hf with ⟨hcs, _⟩ | ⟨a, len', cap', elems, rest, n, _, hcs, _, hb, hl, hm, hlen, hel, _, _⟩
  · simp [Value.cells] at hcs
    obtain ⟨rfl, rfl, rfl⟩ := hcs
    exact .inl ⟨none, 0, rfl, fun _ => rfl, Nat.zero_le _⟩
  · simp [Value.cells] at hcs
    obtain ⟨rfl, rfl, rfl⟩ := hcs
    by_cases hz : len = 0
    · subst hz
      exact .inl ⟨some a, cap, rfl, (fun e => by cases e), hm⟩
    · have each : ∀ i, i < len → ∃ y : ActS, ActSIs y ∧ w.cell? ((a.add (i * 4)).add 0) = some (.int .i64 y.d) ∧ w.cell? ((a.add (i * 4)).add 1) = some (.int .i64 y.z) ∧ w.cell? ((a.add (i * 4)).add 2) = some (.string y.s) ∧ w.cell? ((a.add (i * 4)).add 3) = some (.int .u64 (y.v : Int)) := by
        intro i hi
        have q := hel i hi
        rw [ce, List.getElem?_eq_getElem (by omega), Option.bind_eq_some_iff] at q
        obtain ⟨cs', hc', hy⟩ := q
        obtain ⟨_, _, hc2⟩ := World.cells?_some hc'
        obtain ⟨y, hy1, e0, e1, e2, e3⟩ := open_acts1 he h0 h1 h2 h3 o0 o1 o2 o3 t0 t1 t2 t3 c0 c1 c2 c3 hy
        exact ⟨y, hy1, (hc2 0 (by omega)).trans e0, (hc2 1 (by omega)).trans e1, (hc2 2 (by omega)).trans e2, (hc2 3 (by omega)).trans e3⟩
      obtain ⟨b, off, spot⟩ := a
      have hspot : spot = none := by
        obtain ⟨y, _, e0, _⟩ := each 0 (by omega)
        simpa [Addr.add] using World.cell?_spot e0
      subst hspot
      have hcl : ∀ i k, ((⟨b, off, none⟩ : Addr).add (i * 4)).add k = ⟨b, off + i * 4 + k, none⟩ := fun i k => by rw [add_plain, add_plain]
      have each2 : ∀ i, i < len → ∃ y : ActS, ActSIs y ∧ ActSAt w b (off + i * 4) y := fun i hi => by
        obtain ⟨y, y1, e0, e1, e2, e3⟩ := each i hi
        rw [hcl] at e0 e1 e2 e3
        exact ⟨y, y1, e0, e1, e2, e3⟩
      refine .inr ⟨b, off, len, cap, fun i => if hi : i < len then Classical.choose (each2 i hi) else ⟨0, 0, ⟨#[]⟩, 0⟩, rfl, by omega, hl, hm, ?_, fun i hi => ?_⟩
      · obtain ⟨y, _, e0, _⟩ := each2 0 (by omega)
        exact block_lt_of_cell e0
      · dsimp only
        rw [dif_pos hi]
        exact Classical.choose_spec (each2 i hi)
end Go.Proofs.YtifekejcbhllpaaGreat
