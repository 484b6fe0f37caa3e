/-
  SkBl: SqA, SqR, SqW.
-/
import Derived.Test.YtifekejcbhllpaaGreatSkAj
import Derived.Test.YtifekejcbhllpaaGreatSkBk
import Derived.BigRegion
import Derived.Deep.CutBlock
import Derived.Deep.RegionHeld3

set_option linter.unusedVariables false

/-
  Layer 11: bytes at work over pages: Size, within, spot, line.
-/
namespace Go.Proofs.YtifekejcbhllpaaGreat
open Go.RowKit
set_option linter.unusedVariables false

/-- A line's text in all bytes. -/
def lnQ (B : ByteArray) (L : Nat) : ByteArray := B.extract (64 * L) (64 * L + 64)
/-- Pages as bytes. -/
structure HSp (C : CfgZ) (X : HtA) (A : FlA) (a : DevA) (gd cm : Bool) (lim sb : Nat) (B : ByteArray) (N : Nat) (w : World) : Prop where
  st : ∃ Y, HLg C X A a gd cm lim Y N w ∧ ∀ g k, g < pgC C → k < 8 → tY Y g k = lnQ B (8 * g + k)
  sz : B.size = 512 * pgC C
  hd : Holds w sb #[.pointer (some ⟨X.pb, 0, none⟩)] 83
  na : sb ∉ X.all ++ (A.all (cR C) ++ a.all)
  pg : pgC C ≤ 2048
section
variable {w w' : World} {X : HtA} {A : FlA} {a : DevA} {C : CfgZ} {gd cm : Bool} {N N' lim sb : Nat} {B : ByteArray}
theorem HSp.gr {bs : List Nat} (h : HSp C X A a gd cm lim sb B N w) (k : Gr bs w w') (hn : ∀ x ∈ X.all ++ (A.all (cR C) ++ a.all), x ∉ bs) (hs : sb ∉ bs) : HSp C X A a gd cm lim sb B N w' := by
  obtain ⟨Y, h1, h2⟩ := h.st
  exact ⟨⟨Y, h1.gr k hn, h2⟩, h.sz, h.hd.gr k hs, h.na, h.pg⟩
theorem HSp.gr0 (h : HSp C X A a gd cm lim sb B N w) (k : Gr [] w w') : HSp C X A a gd cm lim sb B N w' := h.gr k (by simp) (by simp)
theorem HSp.more (h : HSp C X A a gd cm lim sb B N w) (hN : N ≤ N') : HSp C X A a gd cm lim sb B N' w := by
  obtain ⟨Y, h1, h2⟩ := h.st
  exact ⟨⟨Y, h1.more hN, h2⟩, h.sz, h.hd, h.na, h.pg⟩
theorem HSp.lt (h : HSp C X A a gd cm lim sb B N w) : ∀ x ∈ sb :: (X.all ++ (A.all (cR C) ++ a.all)), x < w.heap.size := by
  obtain ⟨Y, h1, h2⟩ := h.st
  intro x hx
  rcases List.mem_cons.1 hx with rfl | hx
  · exact h.hd.lt
  · exact h1.lt x hx
theorem HSp.new {Y : Nat → Nat → Nat → Nat} (h : HLg C X A a gd cm lim Y N w) (sz : B.size = 512 * pgC C) (pg : pgC C ≤ 2048) (h2 : ∀ g k, g < pgC C → k < 8 → tY Y g k = lnQ B (8 * g + k)) (hd : Holds w sb #[.pointer (some ⟨X.pb, 0, none⟩)] 83) (na : sb ∉ X.all ++ (A.all (cR C) ++ a.all)) : HSp C X A a gd cm lim sb B N w := ⟨⟨Y, h, h2⟩, sz, hd, na, pg⟩
theorem lnQ_size (h : HSp C X A a gd cm lim sb B N w) {L : Nat} (hL : L < 8 * pgC C) : (lnQ B L).size = 64 := by
  have := h.sz
  unfold lnQ
  rw [ByteArray.size_extract]
  omega
theorem spsize_any (h : HSp C X A a gd cm lim sb B N w) : Calls Tryz.prog 10 #[.pointer (some ⟨sb, 0, none⟩)] w fun e w' => e = .returned (.int .i64 (B.size : Int)) ∧ w' = w := by
  obtain ⟨Y, h1, h2⟩ := h.st
  have HL := Lib.hid (h1.len)
  have c0 := h.hd.cell 0
  obtain ⟨n, hn⟩ : ∃ n, n = B.size := ⟨_, rfl⟩
  have hsz := h.sz
  have hpg := h.pg
  rw [← hn] at hsz ⊢
  obtain ⟨G, hG⟩ : ∃ G, G = pgC C := ⟨_, rfl⟩
  rw [← hG] at HL hsz hpg
  have w1 : IntKind.i64.wrap ((G : Int) * 512) = (n : Int) := by rw [show (G : Int) * 512 = (n : Int) by omega]; exact IntWalk.i64_in _ (by omega)
  clear h h1 h2 hn hG hsz hpg
  go_enter Tryz.func10, Tryz.ntmps10
  go_wp2_with fail
  refine HL.out.mono ?_
  rintro e w2 ⟨rfl, rfl⟩
  go_wp2_with fail
  go_ret
  exact ⟨rfl, rfl⟩
/-- The error of a range. -/
def errW (n : Nat) (k m : Int) : Int := if k < 0 ∨ m < 0 ∨ (n : Int) < m ∨ (n : Int) - m < k then 3 else 0
theorem within_any (h : HSp C X A a gd cm lim sb B N w) (k m : Int) : Calls Tryz.prog 36 #[.pointer (some ⟨sb, 0, none⟩), .int .i64 k, .int .i64 m] w fun e w' => e = .returned (.int .i64 (errW B.size k m)) ∧ w' = w := by
  have HS := Lib.hid (spsize_any h)
  obtain ⟨n, hn⟩ : ∃ n, n = B.size := ⟨_, rfl⟩
  have hsz := h.sz
  have hpg := h.pg
  rw [← hn] at hsz HS ⊢
  have hn7 : n ≤ 2097152 := by omega
  clear h hsz hpg hn
  unfold errW
  by_cases c1 : k < 0
  · rw [if_pos (.inl c1)]
    go_enter Tryz.func36, Tryz.ntmps36
    go_wp2_with fail
    go_ret
    exact ⟨rfl, rfl⟩
  by_cases c2 : m < 0
  · rw [if_pos (.inr (.inl c2))]
    go_enter Tryz.func36, Tryz.ntmps36
    go_wp2_with fail
    go_ret
    exact ⟨rfl, rfl⟩
  by_cases c3 : (n : Int) < m
  · rw [if_pos (.inr (.inr (.inl c3)))]
    go_enter Tryz.func36, Tryz.ntmps36
    go_wp2_with fail
    refine HS.out.mono ?_
    rintro e w2 ⟨rfl, rfl⟩
    go_wp2_with fail
    go_ret
    exact ⟨rfl, rfl⟩
  have w1 : IntKind.i64.wrap ((n : Int) - m) = (n : Int) - m := IntWalk.i64_in _ (by omega)
  by_cases c4 : (n : Int) - m < k
  · rw [if_pos (.inr (.inr (.inr c4)))]
    go_enter Tryz.func36, Tryz.ntmps36
    go_wp2_with fail
    refine HS.out.mono ?_
    rintro e w2 ⟨rfl, rfl⟩
    go_wp2_with fail
    refine HS.out.mono ?_
    rintro e w2 ⟨rfl, rfl⟩
    go_wp2_with fail
    go_ret
    exact ⟨rfl, rfl⟩
  · rw [if_neg (by omega)]
    go_enter Tryz.func36, Tryz.ntmps36
    go_wp2_with fail
    refine HS.out.mono ?_
    rintro e w2 ⟨rfl, rfl⟩
    go_wp2_with fail
    refine HS.out.mono ?_
    rintro e w2 ⟨rfl, rfl⟩
    go_wp2_with fail
    go_ret
    exact ⟨rfl, rfl⟩
theorem spot_any (k : Nat) (hk : k < 4611686018427387904) (w : World) : Calls Tryz.prog 38 #[.int .i64 (k : Int)] w fun e w' => e = .returned (.tuple #[.int .i64 ((k / 512 : Nat) : Int), .int .i64 ((k % 512 / 64 : Nat) : Int)]) ∧ w' = w := by
  have t1 : (k : Int).tdiv 512 = ((k / 512 : Nat) : Int) := (Int.ofNat_tdiv k 512).symm
  have t2 : (k : Int).tmod 512 = ((k % 512 : Nat) : Int) := (Int.ofNat_tmod k 512).symm
  obtain ⟨g, hg⟩ : ∃ x, x = k / 512 := ⟨_, rfl⟩
  obtain ⟨r, hr⟩ : ∃ x, x = k % 512 := ⟨_, rfl⟩
  rw [← hg] at t1 ⊢
  rw [← hr] at t2 ⊢
  have t3 : (r : Int).tdiv 64 = ((r / 64 : Nat) : Int) := (Int.ofNat_tdiv r 64).symm
  obtain ⟨l, hl⟩ : ∃ x, x = r / 64 := ⟨_, rfl⟩
  rw [← hl] at t3 ⊢
  have w1 : IntKind.i64.wrap (g : Int) = (g : Int) := IntWalk.i64_in _ (by omega)
  have w2 : IntKind.i64.wrap (r : Int) = (r : Int) := IntWalk.i64_in _ (by omega)
  have w3 : IntKind.i64.wrap (l : Int) = (l : Int) := IntWalk.i64_in _ (by omega)
  clear hg hr hl hk
  go_enter Tryz.func38, Tryz.ntmps38
  go_wp2_with fail
  go_ret2
  exact ⟨rfl, rfl⟩
theorem spline_any (h : HSp C X A a gd cm lim sb B N w) (k : Nat) (hk : k < B.size) : Calls Tryz.prog 37 #[.pointer (some ⟨sb, 0, none⟩), .int .i64 (k : Int)] w fun e w' => e = .returned (.tuple #[.string (lnQ B (k / 64)), .int .i64 0]) ∧ Gr [] w w' := by
  obtain ⟨Y, h1, h2⟩ := h.st
  have hsz := h.sz
  have hpg := h.pg
  have HSt := Lib.hid (fun W => spot_any k (by omega) W)
  have hg : k / 512 < pgC C := by omega
  have hr : k % 512 / 64 < 8 := by omega
  have HT := Lib.hid ((h1.text (k / 512) (k % 512 / 64) hg hr).2.2)
  rw [h2 _ _ hg hr, show 8 * (k / 512) + k % 512 / 64 = k / 64 by omega] at HT
  have c0 := h.hd.cell 0
  generalize lnQ B (k / 64) = T at *
  generalize k / 512 = g at *
  generalize k % 512 / 64 = r at *
  clear h h1 h2 hsz hpg hg hr hk
  go_enter Tryz.func37, Tryz.ntmps37
  go_wp2_with fail
  refine (HSt.out _).mono ?_
  rintro e w2 ⟨rfl, rfl⟩
  go_wp2_with fail
  refine HT.out.mono ?_
  rintro e w3 ⟨rfl, g3⟩
  have HG := Lib.hid g3
  clear g3 c0
  go_wp2_with fail
  go_ret2
  exact ⟨rfl, HG.out⟩
end
end Go.Proofs.YtifekejcbhllpaaGreat

/-
  Layer 11: Read.
-/
namespace Go.Proofs.YtifekejcbhllpaaGreat
open Go.RowKit
set_option linter.unusedVariables false

theorem minIsS (P : Program) (x y m : Nat) (h : m = min x y) (ts : Array TypeId) (t : TypeId) (w : World) : (Builtin.min_ ts t #[.int .i64 (x : Int), .int .i64 (y : Int)]).run P w = .ok (.int .i64 (m : Int)) w := by
  rw [run_min_int2]
  have : (if ((y : Nat) : Int) < (x : Int) then ((y : Nat) : Int) else (x : Int)) = (m : Int) := by split <;> omega
  rw [this]
section
variable {w w' : World} {X : HtA} {A : FlA} {a : DevA} {C : CfgZ} {gd cm : Bool} {N N' lim sb : Nat} {B : ByteArray}
set_option maxRecDepth 100000 in
set_option maxHeartbeats 16000000 in
theorem spread_in (h : HSp C X A a gd cm lim sb B N w) (K M : Nat) (hb : K + M ≤ B.size) : Calls Tryz.prog 12 #[.pointer (some ⟨sb, 0, none⟩), .int .i64 (K : Int), .int .i64 (M : Int)] w fun e w' => e = .returned (.tuple #[.string (B.extract K (K + M)), .int .i64 0]) ∧ Gr [] w w' := by
  have HW := Lib.hid (within_any h (K : Int) (M : Int))
  have he : errW B.size (K : Int) (M : Int) = 0 := if_neg (by omega)
  rw [he] at HW
  have H0 := Lib.hid h
  have HSZ := Lib.hid (show B.size = 512 * pgC C ∧ pgC C ≤ 2048 ∧ K + M ≤ B.size ∧ B.size ≤ 1048576 from ⟨h.sz, h.pg, hb, by have := h.sz; have := h.pg; omega⟩)
  clear h he hb
  go_enter Tryz.func12, Tryz.ntmps12
  go_wp2_with fail
  refine HW.out.mono ?_
  rintro e w2 ⟨rfl, rfl⟩
  have hB0 := IsB.new w2
  have hG0 := (Gr.refl [] w2).alloc (Obj.cells #[.pointer none, .slice none 0 0] 76)
  have HB0 := Lib.hid (And.intro hB0 hG0)
  clear hB0 hG0 HW
  go_upto_region 5 with fail
  generalize w2.alloc (Obj.cells #[.pointer none, .slice none 0 0] 76) = w3 at *
  obtain ⟨bb, hbb⟩ : ∃ b, w2.heap.size = b := ⟨_, rfl⟩
  have HBB := Lib.hid hbb
  rw [hbb] at HB0 ⊢
  clear hbb
  go_loopw [1, 2] (fun av nv wr => ∃ j : Nat, j ≤ M ∧ av = .int .i64 ((K + j : Nat) : Int) ∧ nv = .int .i64 ((M - j : Nat) : Int) ∧ Hid (IsB bb bb (B.extract K (K + j)).data.toList wr ∧ Gr [] w2 wr)) (fun _ nv _ => (intOf nv).toNat)
  case atStart => exact ⟨0, by omega, rfl, by rw [Nat.sub_zero], Lib.hid ⟨by rw [Nat.add_zero, ext_nil]; exact HB0.out.1, HB0.out.2⟩⟩
  case round =>
    clear HB0
    obtain ⟨j, hj, rfl, rfl, HH⟩ := hrel
    by_cases hjM : j < M
    · as_aux_lemma =>
        have HJ := Lib.hid hjM
        obtain ⟨p, hp⟩ : ∃ p, p = K + j := ⟨_, rfl⟩
        obtain ⟨r, hr⟩ : ∃ r, r = M - j := ⟨_, rfl⟩
        rw [← hp, ← hr]
        have hps : p < B.size := by have := HSZ.out; omega
        have ir : (0 : Int) < (r : Int) := by omega
        have ir2 : 0 < r := by omega
        have HLi := Lib.hid (fun W (g : Gr [] w2 W) => spline_any (H0.out.gr0 g) p hps)
        obtain ⟨f, hf⟩ : ∃ f, f = p % 64 := ⟨_, rfl⟩
        have y1 : (p : Int).tmod 64 = (f : Int) := by rw [hf]; exact (Int.ofNat_tmod p 64).symm
        have y2 : IntKind.i64.wrap (f : Int) = (f : Int) := IntWalk.i64_in _ (by omega)
        obtain ⟨m, hm⟩ : ∃ m, m = min r (64 - f) := ⟨_, rfl⟩
        have hmn := minIsS Tryz.prog r (64 - f) m hm
        have HN := Lib.hid (show p = K + j ∧ r = M - j ∧ f = p % 64 ∧ f < 64 ∧ m = min r (64 - f) ∧ 1 ≤ m ∧ m ≤ 64 - f ∧ m ≤ r ∧ p < B.size from ⟨hp, hr, hf, by omega, hm, by omega, by omega, by omega, hps⟩)
        obtain ⟨T, hT⟩ : ∃ T, T = lnQ B (p / 64) := ⟨_, rfl⟩
        rw [← hT] at HLi
        have hT64 : T.size = 64 := by rw [hT]; exact lnQ_size H0.out (by have := HSZ.out; omega)
        have HT := Lib.hid (And.intro hT hT64)
        clear hjM hj hp hr hps hf hm hT
        go_wp2_with fail
        refine (HLi.out _ HH.out.2).mono ?_
        rintro e w5 ⟨rfl, g5⟩
        have H5 := Lib.hid (show IsB bb bb (B.extract K (K + j)).data.toList w5 ∧ Gr [] w2 w5 from ⟨HH.out.1.gr0 g5, HH.out.2.trans g5⟩)
        clear g5 HH HLi
        have lf : (f : Int) ≤ 64 := by have := HN.out; omega
        have lf0 : (0 : Int) ≤ (f : Int) := by omega
        go_upto_region 10 with fail
        obtain ⟨T1, hT1⟩ : ∃ T1, T1 = T.extract f 64 := ⟨_, rfl⟩
        have hT1s : T1.size = 64 - f := by rw [hT1]; exact ext_size (by omega) (by have := HN.out; omega)
        try rw [hT64]
        try rw [← hT1]
        have HT1 := Lib.hid (And.intro hT1 hT1s)
        clear hT1 y1 y2 lf lf0 hT64
        have lm : m ≤ 64 - f := HN.out.2.2.2.2.2.2.1
        go_upto_region 11 with fail
        obtain ⟨T2, hT2⟩ : ∃ T2, T2 = T1.extract 0 m := ⟨_, rfl⟩
        have hT2s : T2.size = m := by rw [hT2]; exact (ext_size (by rw [hT1s]; omega) (by omega)).trans (by omega)
        try rw [← hT2]
        have HT2 := Lib.hid (show T2.data.toList = (B.extract p (p + m)).data.toList from by
          rw [hT2, HT1.out.1, HT.out.1]
          unfold lnQ
          have n0 := HN.out
          have z0 := HSZ.out
          have hX : (B.extract (64 * (p / 64)) (64 * (p / 64) + 64)).size = 64 := by rw [ByteArray.size_extract]; omega
          rw [ext_ext _ _ _ _ (by omega) (by omega) (by omega), ext_ext _ _ _ _ (by omega) (by omega) (by omega)]
          congr 3 <;> omega)
        clear hT2 hT1s hmn
        have HWr := Lib.hid (write_any bb bb (B.extract K (K + j)).data.toList (B.extract p (p + m)).data.toList T2 w5 H5.out.1 HT2.out (by
          have n0 := HN.out
          have z0 := HSZ.out
          show (B.extract K (K + j)).size + (B.extract p (p + m)).size ≤ _
          rw [ByteArray.size_extract, ByteArray.size_extract]
          omega) (by have := H5.out.2.size; have := HBB.out; omega))
        go_wp2_with fail
        refine HWr.out.mono ?_
        rintro e w6 ⟨⟨v6, rfl⟩, q6, b6, _⟩
        have H6 := Lib.hid (show IsB bb bb (B.extract K (K + (j + m))).data.toList w6 ∧ Gr [] w2 w6 from ⟨by
          have n0 := HN.out
          have z0 := HSZ.out
          have e := ext_join (B := B) K (K + j) (K + (j + m)) (by omega) (by omega) (by omega)
          rw [← e, ByteArray.data_append, Array.toList_append]
          rw [n0.1] at q6
          rw [show K + (j + m) = K + j + m by omega]
          exact q6, H5.out.2.thenB (by rw [HBB.out]; exact b6)⟩)
        clear q6 b6 H5 HWr
        have u1 : IntKind.i64.wrap ((p : Int) + (m : Int)) = ((K + (j + m) : Nat) : Int) := by
          have n0 := HN.out
          have z0 := HSZ.out
          rw [show (p : Int) + (m : Int) = ((K + (j + m) : Nat) : Int) by omega]
          exact IntWalk.i64_in _ (by omega)
        have u2 : IntKind.i64.wrap ((r : Int) - (m : Int)) = ((M - (j + m) : Nat) : Int) := by
          have n0 := HN.out
          have z0 := HSZ.out
          rw [show (r : Int) - (m : Int) = ((M - (j + m) : Nat) : Int) by omega]
          exact IntWalk.i64_in _ (by omega)
        go_wp2_with fail
        go_roundw
        case rel => exact ⟨j + m, by have := HN.out; omega, rfl, rfl, H6⟩
        case measure => have := HN.out; simp [intOf]; omega
    · obtain rfl : j = M := by omega
      have ir : ¬ (0 : Int) < ((j - j : Nat) : Int) := by omega
      rw [Nat.sub_self]
      have HSt := Lib.hid (string_any bb bb (B.extract K (K + j)).data.toList (B.extract K (K + j)) wr HH.out.1 rfl (by have := HH.out.2.size; have := HBB.out; omega))
      clear hjM hj ir
      go_wp2_with fail
      refine HSt.out.mono ?_
      rintro e w6 ⟨rfl, b6⟩
      have H6 := Lib.hid (HH.out.2.thenB (by rw [HBB.out]; exact b6))
      clear b6 HSt HH
      go_wp2_with fail
      go_ret2
      exact ⟨rfl, H6.out⟩
end
end Go.Proofs.YtifekejcbhllpaaGreat

/-
  Layer 11: Write.
-/
namespace Go.Proofs.YtifekejcbhllpaaGreat
open Go.RowKit
set_option linter.unusedVariables false

section
variable {w w' : World} {X : HtA} {A : FlA} {a : DevA} {C : CfgZ} {gd cm : Bool} {N N' lim sb : Nat} {B : ByteArray}
/-- A line of all bytes is written. -/
theorem HSp.put (h : HSp C X A a gd cm lim sb B N w) (hN : N < 400000000) (L : Nat) (hL : L < 8 * pgC C) (l : ByteArray) (hl : l.size = 64) :
    Calls Tryz.prog 39 #[.pointer (some ⟨X.pb, 0, none⟩), .int .i64 ((L / 8 : Nat) : Int), .int .i64 ((L % 8 : Nat) : Int), .string l] w fun e w' => ∃ x : Int, e = .returned (.int .i64 x) ∧ ((x = 0 ∧ HSp C X A a gd cm lim sb (splB B (64 * L) l) (N + 42000) w') ∨ (x = 10 ∧ gd = false ∧ HSp C X A a gd cm lim sb B (N + 42000) w') ∨ (x = 6 ∧ cm = false)) ∧ Gr (X.all ++ (A.all (cR C) ++ a.all)) w w' := by
  obtain ⟨Y, h1, h2⟩ := h.st
  refine (h1.put hN (L / 8) (L % 8) (by omega) (by omega) l hl).mono ?_
  rintro e w2 ⟨x, rfl, hx, g2⟩
  have hd2 := h.hd.gr g2 h.na
  have hsz := h.sz
  refine ⟨x, rfl, ?_, g2⟩
  rcases hx with ⟨e, q⟩ | ⟨e, hg, q⟩ | ⟨e, hc, q⟩
  · refine .inl ⟨e, ⟨_, q, fun g k hg hk => ?_⟩, by rw [splB_size (by omega)]; exact hsz, hd2, h.na, h.pg⟩
    by_cases c : g = L / 8 ∧ k = L % 8
    · obtain ⟨rfl, rfl⟩ := c
      rw [show 8 * (L / 8) + L % 8 = L by omega]
      unfold lnQ
      rw [splB_own hl (by omega)]
      exact tY_is hl fun m hm => by unfold putN; rw [if_pos ⟨rfl, rfl⟩]
    · have e1 : putN Y (L / 8) (L % 8) l g k = Y g k := by
        funext m
        exact if_neg c
      have e2 : tY (putN Y (L / 8) (L % 8) l) g k = tY Y g k := by unfold tY; rw [e1]
      rw [e2, h2 g k hg hk]
      unfold lnQ
      rw [splB_far hl (by omega) (by omega) (by omega)]
  · exact .inr (.inl ⟨e, hg, ⟨Y, q, h2⟩, hsz, hd2, h.na, h.pg⟩)
  · exact .inr (.inr ⟨e, hc⟩)
/-- A line whose middle is another text. -/
def midL (W p : ByteArray) (f : Nat) : ByteArray := W.extract 0 f ++ p ++ W.extract (f + p.size) 64
theorem midL_size {W p : ByteArray} {f : Nat} (hW : W.size = 64) (hf : f + p.size ≤ 64) : (midL W p f).size = 64 := by
  unfold midL
  rw [ByteArray.size_append, ByteArray.size_append, ext_size (by omega) (by omega), ext_size (by omega) (by omega)]
  omega
theorem midL_all {W p : ByteArray} (hW : W.size = 64) (hp : p.size = 64) : midL W p 0 = p := by
  unfold midL
  rw [hp, Nat.zero_add, ext_nil, ext_nil]
  refine bs_ext (by rw [ByteArray.size_append, ByteArray.size_append]; show 0 + p.size + 0 = p.size; omega) fun i hi => ?_
  rw [ByteArray.size_append, ByteArray.size_append] at hi
  have z : (⟨#[]⟩ : ByteArray).size = 0 := rfl
  rw [z] at hi
  rw [bs_append, bs_append, ByteArray.size_append, z, if_pos (by omega), if_neg (by omega), Nat.sub_zero]
set_option maxRecDepth 100000 in
set_option maxHeartbeats 16000000 in
theorem spwrite_in (h : HSp C X A a gd cm lim sb B N w) (K : Nat) (b : ByteArray) (hb : K + b.size ≤ B.size) (hN : N + 42000 * b.size < 400000000) :
    Calls Tryz.prog 11 #[.pointer (some ⟨sb, 0, none⟩), .int .i64 (K : Int), .string b] w fun e w' => ∃ x : Int, e = .returned (.int .i64 x) ∧ ((x = 0 ∧ HSp C X A a gd cm lim sb (splB B K b) (N + 42000 * b.size) w') ∨ (x = 10 ∧ gd = false ∧ ∃ j, j ≤ b.size ∧ HSp C X A a gd cm lim sb (splB B K (b.extract 0 j)) (N + 42000 * b.size) w') ∨ (x = 6 ∧ cm = false)) ∧ Gr (X.all ++ (A.all (cR C) ++ a.all)) w w' := by
  have HW := Lib.hid (within_any h (K : Int) (b.size : Int))
  have he : errW B.size (K : Int) (b.size : Int) = 0 := if_neg (by omega)
  rw [he] at HW
  have H0 := Lib.hid h
  have HNN := Lib.hid hN
  have HSZ := Lib.hid (show B.size = 512 * pgC C ∧ pgC C ≤ 2048 ∧ K + b.size ≤ B.size ∧ B.size ≤ 1048576 from ⟨h.sz, h.pg, hb, by have := h.sz; have := h.pg; omega⟩)
  obtain ⟨M, hM⟩ : ∃ M, M = b.size := ⟨_, rfl⟩
  have HM := Lib.hid hM
  rw [← hM] at HNN HSZ ⊢
  clear h he hb hN
  go_enter Tryz.func11, Tryz.ntmps11

  go_wp2_with fail
  refine HW.out.mono ?_
  rintro e w2 ⟨rfl, rfl⟩
  clear hM HW
  go_upto_region 4 with fail
  go_loopw [1, 2] (fun av bv wr => ∃ j : Nat, j ≤ M ∧ av = .int .i64 ((K + j : Nat) : Int) ∧ bv = .string (b.extract j M) ∧ Hid (HSp C X A a gd cm lim sb (splB B K (b.extract 0 j)) (N + 42000 * j) wr ∧ Gr (X.all ++ (A.all (cR C) ++ a.all)) w2 wr)) (fun av _ _ => K + M - (intOf av).toNat)
  case atStart =>
    refine ⟨0, by omega, rfl, by rw [HM.out, ext_all], Lib.hid ⟨?_, Gr.refl _ _⟩⟩
    rw [splB_nil (by have := HSZ.out; omega)]
    exact H0.out
  case round =>
    obtain ⟨j, hj, rfl, rfl, HH⟩ := hrel
    by_cases hjM : j < M
    · as_aux_lemma =>
        have HJ := Lib.hid hjM
        obtain ⟨p, hp⟩ : ∃ p, p = K + j := ⟨_, rfl⟩
        obtain ⟨r, hr⟩ : ∃ r, r = M - j := ⟨_, rfl⟩
        obtain ⟨bj, hbj⟩ : ∃ t, t = b.extract j M := ⟨_, rfl⟩
        obtain ⟨Bj, hBj⟩ : ∃ t, t = splB B K (b.extract 0 j) := ⟨_, rfl⟩
        rw [← hp, ← hbj]
        rw [← hBj] at HH
        have hbjs : bj.size = r := by rw [hbj, hr]; exact ext_size (by have := HM.out; omega) (by omega)
        have hBjs : Bj.size = B.size := by rw [hBj]; exact splB_size (by have := HSZ.out; have := HM.out; rw [ext_size (by omega) (by omega)]; omega)
        have hps : p < Bj.size := by rw [hBjs]; have := HSZ.out; omega
        have ir : (0 : Int) < (r : Int) := by omega
        have ir2 : 0 < r := by omega
        have HLi := Lib.hid (fun W (g : Gr [] wr W) => spline_any (HH.out.1.gr0 g) p hps)
        obtain ⟨f, hf⟩ : ∃ f, f = p % 64 := ⟨_, rfl⟩
        have y1 : (p : Int).tmod 64 = (f : Int) := by rw [hf]; exact (Int.ofNat_tmod p 64).symm
        have y2 : IntKind.i64.wrap (f : Int) = (f : Int) := IntWalk.i64_in _ (by omega)
        obtain ⟨u, hu⟩ : ∃ u, u = 64 - f := ⟨_, rfl⟩
        have y3 : IntKind.i64.wrap (64 - (f : Int)) = (u : Int) := by rw [show 64 - (f : Int) = (u : Int) by omega]; exact IntWalk.i64_in _ (by omega)
        obtain ⟨m, hm⟩ : ∃ m, m = min r u := ⟨_, rfl⟩
        have hmn := minIsS Tryz.prog r u m hm
        have HN := Lib.hid (show p = K + j ∧ r = M - j ∧ f = p % 64 ∧ f < 64 ∧ 1 ≤ m ∧ f + m ≤ 64 ∧ m ≤ r ∧ p < B.size ∧ (r < u ∨ f + m = 64) from ⟨hp, hr, hf, by omega, by omega, by omega, by omega, by rw [← hBjs]; exact hps, by omega⟩)
        obtain ⟨T, hT⟩ : ∃ T, T = lnQ Bj (p / 64) := ⟨_, rfl⟩
        rw [← hT] at HLi
        have hT64 : T.size = 64 := by rw [hT]; exact lnQ_size HH.out.1 (by have := HSZ.out; omega)
        obtain ⟨q, hq⟩ : ∃ q, q = bj.extract 0 m := ⟨_, rfl⟩
        have hqs : q.size = m := by rw [hq]; exact (ext_size (by omega) (by omega)).trans (by omega)
        have HQ := Lib.hid (show q = b.extract j (j + m) ∧ T = lnQ Bj (p / 64) ∧ Bj = splB B K (b.extract 0 j) ∧ Bj.size = B.size ∧ bj = b.extract j M from ⟨by
          rw [hq, hbj, ext_ext _ _ _ _ (by omega) (by omega) (by have := HM.out; omega), Nat.add_zero], hT, hBj, hBjs, hbj⟩)
        have lm : m ≤ r := by omega
        have lm1 : (m : Int) ≤ (r : Int) := by omega
        have lm0 : (0 : Int) ≤ (m : Int) := by omega
        have hm64 : ((m : Int) < 64) ↔ m < 64 := by omega
        clear hjM hj hp hr hps hf hm hu hT hbj hBj hBjs
        go_upto_region 7 with fail
        try rw [← hq]
        clear hq
        clear y1 y2 y3 hmn lm lm1 lm0 ir ir2
        obtain ⟨LL, hLL⟩ : ∃ t, t = midL T q f := ⟨_, rfl⟩
        have HLL := Lib.hid hLL
        have hmin : min m r = m := by have := HN.out; omega
        go_upto_if 39 with fail
        clear hmin
        go_cut [10] (fun lv wz => lv = .string LL ∧ Gr [] wr wz)
        case first =>
          by_cases c64 : m < 64
          · as_aux_lemma =>
              have il : (m : Int) < 64 := by omega
              go_upto_region 9 with fail
              clear il c64
              go_wp2_with fail
              refine (HLi.out _ (Gr.refl _ _)).mono ?_
              rintro e w5 ⟨rfl, g5⟩
              have HG := Lib.hid g5
              clear g5
              have lf : (f : Int) ≤ 64 := by have := HN.out; omega
              have lf0 : (0 : Int) ≤ (f : Int) := by omega
              have lf2 : f ≤ 64 := by have := HN.out; omega
              obtain ⟨v, hv⟩ : ∃ v, v = f + m := ⟨_, rfl⟩
              have y5 : IntKind.i64.wrap ((f : Int) + (m : Int)) = (v : Int) := by rw [show (f : Int) + (m : Int) = (v : Int) by omega]; exact IntWalk.i64_in _ (by have := HN.out; omega)
              have lv1 : (v : Int) ≤ 64 := by have := HN.out; omega
              have lv2 : v ≤ 64 := by have := HN.out; omega
              have lv0 : (0 : Int) ≤ (v : Int) := by omega
              go_upto_region 12 with fail
              have hne := kp_ne w5
              refine wp_region_kp (by kernel_rfl) (by kernel_rfl) ?_
              repeat (go_big_quiet_step (fail))
              with_reducible refine wpQuiet_nil ?_
              rintro _ ⟨y, rfl⟩
              have HG2 := Lib.hid (HG.out.trans (Gr.ofBelow (cs := []) y.h))
              clear hne
              generalize y.w = w6 at *
              go_wp2_with fail
              go_meet
              refine ⟨?_, HG2.out⟩
              rw [HLL.out]
              unfold midL
              rw [hqs]
          · as_aux_lemma =>
              have il : ¬ (m : Int) < 64 := by omega
              have e64 : m = 64 := by have := HN.out; omega
              have f0 : f = 0 := by have := HN.out; omega
              have HLq := Lib.hid (show LL = q from by rw [HLL.out, f0]; exact midL_all hT64 (by omega))
              clear e64 f0
              go_wp2_with fail
              go_meet
              exact ⟨by rw [HLq.out], Gr.refl _ _⟩
        case rest =>
          obtain ⟨rfl, gc⟩ := hcut
          have HC := Lib.hid (show HSp C X A a gd cm lim sb Bj (N + 42000 * j) wc ∧ Gr (X.all ++ (A.all (cR C) ++ a.all)) w2 wc from ⟨HH.out.1.gr0 gc, HH.out.2.next0 gc⟩)
          have hls : LL.size = 64 := by rw [hLL]; exact midL_size hT64 (by rw [hqs]; have := HN.out; omega)
          clear gc HH HLi
          have HSt := Lib.hid (fun W => spot_any p (by have := HN.out; have := HSZ.out; omega) W)
          have HPt := Lib.hid (HC.out.1.put (by have := HNN.out; have := HJ.out; omega) (p / 64) (by have := HN.out; have := HSZ.out; omega) LL hls)
          rw [show p / 64 / 8 = p / 512 by omega, show p / 64 % 8 = p % 512 / 64 by omega] at HPt
          obtain ⟨g1, hg1⟩ : ∃ x, x = p / 512 := ⟨_, rfl⟩
          obtain ⟨k1, hk1⟩ : ∃ x, x = p % 512 / 64 := ⟨_, rfl⟩
          rw [← hg1, ← hk1] at HSt HPt
          clear hg1 hk1 hls
          have HRes := Lib.hid (show splB Bj (64 * (p / 64)) LL = splB B K (b.extract 0 (j + m)) from by
            have n0 := HN.out
            have z0 := HSZ.out
            have hM := HM.out
            rw [hLL]
            unfold midL
            rw [HQ.out.2.1]
            unfold lnQ
            rw [n0.2.2.1]
            rw [splB_line (L := p / 64) (k := p) (p := q) (by rw [HQ.out.2.2.2.1]; omega) rfl (by rw [hqs]; omega), HQ.out.1, HQ.out.2.2.1, n0.1]
            exact splB_step (by omega) (by omega) (by omega))
          clear hLL hT64
          have c0 := HC.out.1.hd.cell 0
          go_wp2_with fail
          refine (HSt.out _).mono ?_
          rintro e w7 ⟨rfl, rfl⟩
          go_wp2_with fail
          refine HPt.out.mono ?_
          rintro e w8 ⟨x, rfl, hx, g8⟩
          have HG8 := Lib.hid (HC.out.2.trans g8)
          clear g8 HPt HSt c0
          rcases hx with ⟨rfl, h8⟩ | ⟨rfl, hgd, h8⟩ | ⟨rfl, hc⟩
          · rw [HRes.out] at h8
            have H8 := Lib.hid h8
            clear h8
            have u1 : IntKind.i64.wrap ((p : Int) + (m : Int)) = ((K + (j + m) : Nat) : Int) := by
              have n0 := HN.out
              have z0 := HSZ.out
              rw [show (p : Int) + (m : Int) = ((K + (j + m) : Nat) : Int) by omega]
              exact IntWalk.i64_in _ (by omega)
            have lm : m ≤ r := HN.out.2.2.2.2.2.2.1
            have lm1 : (m : Int) ≤ (r : Int) := by omega
            have lm0 : (0 : Int) ≤ (m : Int) := by omega
            go_wp2_with fail
            go_roundw
            case rel =>
              refine ⟨j + m, by have := HN.out; omega, rfl, ?_, Lib.hid ⟨H8.out.more (by have := HN.out; omega), HG8.out⟩⟩
              have n0 := HN.out
              have hM := HM.out
              congr 1
              rw [HQ.out.2.2.2.2] at hbjs ⊢
              first
                | (rw [ext_ext _ _ _ _ (by omega) (by omega) (by omega)]; congr 1; omega)
                | (rw [hbjs, ext_ext _ _ _ _ (by omega) (by omega) (by omega)]; congr 1; omega)
            case measure => have := HN.out; simp [intOf]; omega
          · have H8 := Lib.hid (And.intro hgd h8)
            clear h8 hgd
            go_wp2_with fail
            go_ret
            refine ⟨10, rfl, .inr (.inl ⟨rfl, H8.out.1, j, by have := HJ.out; omega, ?_⟩), HG8.out⟩
            rw [← HQ.out.2.2.1]
            exact H8.out.2.more (by have := HJ.out; omega)
          · have H8 := Lib.hid hc
            clear hc
            go_wp2_with fail
            go_ret
            exact ⟨6, rfl, .inr (.inr ⟨rfl, H8.out⟩), HG8.out⟩
    · obtain rfl : j = M := by omega
      have hz : (b.extract j j).size = 0 := by rw [ByteArray.size_extract]; omega
      clear hjM hj
      go_wp2_with fail
      go_ret
      refine ⟨0, rfl, .inl ⟨rfl, ?_⟩, HH.out.2⟩
      have := HH.out.1
      rw [HM.out, splB_all (by have := HSZ.out; have := HM.out; omega)] at this
      rw [HM.out]
      exact this
end
end Go.Proofs.YtifekejcbhllpaaGreat
