/-
  HkAl: SpE, SpF, SpZ, Gap, GapB, GapC.
-/
import Derived.Test.YtefmbchebobceaaGreatHkAk
import Derived.Test.YtefmbchebobceaaGreatHkAf
import Derived.Test.YtefmbchebobceaaGreatHkAa
import Derived.Deep.CutBlock
import Derived.Test.YtefmbchebobceaaGreatRows
import Derived.WalkKit
import Derived.Handy
import Derived.Lib.Hide
import Derived.Deep.QuietTactic
import Derived.BigQuiet

set_option linter.unusedVariables false

/-
  Layer 5: ensure, Write.
-/
namespace Go.Proofs.YtefmbchebobceaaGreat
open Go.RowKit

def ensS (p : PlanZ) (i : Int) (s : ByteArray) : Nat → DevS → BkS → Int × DevS × BkS
  | 0, D, B => (10, D, B)
  | n + 1, D, B => if (replaceS p i s D B).t = true ∨ (replaceS p i s D B).e ≠ 0 then ((replaceS p i s D B).e, (replaceS p i s D B).D, (replaceS p i s D B).B) else ensS p i s n (replaceS p i s D B).D (replaceS p i s D B).B
def ensureS (p : PlanZ) (i z : Int) (s : ByteArray) (D : DevS) (B : BkS) : Int × DevS × BkS := if tookB D z s then (0, D, B) else ensS p i s (p.s - B.used).toNat D B
def EnsPost (w : World) (q : BkA) (a : DevA) (p : PlanZ) (m c : Nat) (X : Int × DevS × BkS) (e : Ending) (w' : World) : Prop :=
  e = .returned (.int .i64 X.1) ∧ DevIs w' a X.2.1 ∧ Bd X.2.1 (c + 1300) ∧ BkIs w' q a p X.2.2 (m + 64) ∧ Gr (q.all ++ a.all) w w'
section
variable {w : World} {q : BkA} {a : DevA} {p : PlanZ} {B : BkS} {m c : Nat} {D : DevS}
theorem BkIs.moreN (h : BkIs w q a p B m) (k : Nat) (hk : m ≤ k) : BkIs w q a p B k := ⟨h.head, h.map.mono hk, h.ok, h.us, h.rg, h.ne, h.sep⟩
theorem rep_used (p : PlanZ) (i : Int) (s : ByteArray) (D : DevS) (B : BkS) (he : (replaceS p i s D B).e = 0) : (replaceS p i s D B).B.used = B.used + 1 := by
  unfold replaceS at he ⊢
  split
  · rename_i h
    rw [if_pos h] at he
    exact absurd he h
  · rename_i h
    rw [if_neg h] at he
    split
    · rename_i h2
      rw [if_pos h2] at he
      exact absurd he h2
    · rfl
set_option maxRecDepth 100000 in
set_option maxHeartbeats 8000000 in
theorem ensure_any (i z : Int) (s : ByteArray) (h : BkIs w q a p B m) (hd : DevIs w a D) (hb : Bd D c) (hc : c < 800000000) (hs : s.size ≤ maxLen) (hi : inP p i) (hm : m < 90000000) :
    Calls Tryz.prog 193 #[.pointer (some ⟨q.b, 0, none⟩), .int .i64 i, .int .i64 z, .string s] w (EnsPost w q a p m c (ensureS p i z s D B)) := by
  have c0 := h.c0
  have H := Lib.hid (And.intro h (And.intro hd hb))
  have HSS := Lib.hid (And.intro hs hi)
  have HT := Lib.hid (took_any a D z s w hd hs)
  cases htk : tookB D z s with
  | true =>
    rw [htk] at HT
    have HR := Lib.hid (show ensureS p i z s D B = (0, D, B) by unfold ensureS; rw [if_pos htk])
    clear h hd hb hs hi htk
    go_enter Tryz.func193, Tryz.ntmps193
    go_wp2_with fail
    refine HT.out.mono ?_
    rintro e w1 ⟨rfl, g1⟩
    have HG := Lib.hid g1
    clear g1
    go_wp2_with fail
    go_ret
    rw [HR.out]
    exact ⟨rfl, H.out.2.1.gr0 HG.out, H.out.2.2.mono (by omega), (H.out.1.gr0 HG.out).moreN _ (by omega), HG.out.of0⟩
  | false =>
    rw [htk] at HT
    obtain ⟨L, hL⟩ : ∃ L : Nat, p.s - (B.used : Int) = (L : Int) := ⟨(p.s - (B.used : Int)).toNat, by have := h.us; omega⟩
    have hL64 : L ≤ 64 := by have := ((okZ_iff _).1 h.ok).2.2.2.2.2; omega
    have HR := Lib.hid (show ensureS p i z s D B = ensS p i s L D B by unfold ensureS; rw [htk, hL]; simp)
    have HLs := Lib.hid hL
    have HLF := Lib.hid (fun W (hW : BkIs W q a p B m) => left_at hW)
    rw [hL] at HLF
    clear h hd hb hs hi htk hL
    go_enter Tryz.func193, Tryz.ntmps193
    go_wp2_with fail
    refine HT.out.mono ?_
    rintro e w1 ⟨rfl, g1⟩
    have HG := Lib.hid g1
    clear g1
    go_wp2_with fail
    refine (HLF.out _ (H.out.1.gr0 HG.out)).mono ?_
    rintro e w2 ⟨rfl, g2⟩
    have HG2 := Lib.hid (HG.out.next0 g2)
    clear g2
    go_wp2_with fail
    go_loopw [20] (fun k wr => ∃ (j : Nat) (D' : DevS) (B' : BkS), j ≤ L ∧ k = .int .i64 j ∧ DevIs wr a D' ∧ Bd D' (c + 20 * j) ∧ BkIs wr q a p B' (m + j) ∧ B'.used = B.used + j ∧ ensS p i s (L - j) D' B' = ensS p i s L D B ∧ Gr (q.all ++ a.all) w wr) (fun k _ => L - (intOf k).toNat)
    case atStart => exact ⟨0, D, B, by omega, rfl, H.out.2.1.gr0 HG2.out, H.out.2.2, H.out.1.gr0 HG2.out, rfl, rfl, HG2.out.of0⟩
    case round =>
      obtain ⟨j, D', B', hj, rfl, hd', hb', hk', hu', he', g'⟩ := hrel
      have HH := Lib.hid (And.intro hd' (And.intro hb' (And.intro hk' (And.intro hu' (And.intro he' g')))))
      clear hd' hb' hk' hu' he' g'
      by_cases hjL : j < L
      · have ij : (j : Int) < (L : Int) := by omega
        have HRP := Lib.hid (replace_any i s HH.out.2.2.1 HH.out.1 HH.out.2.1 (by omega) HSS.out.1 HSS.out.2 (by have := HLs.out; have := HH.out.2.2.2.1; omega) (by omega))
        have HE := Lib.hid (show ensS p i s (L - j) D' B' = if (replaceS p i s D' B').t = true ∨ (replaceS p i s D' B').e ≠ 0 then ((replaceS p i s D' B').e, (replaceS p i s D' B').D, (replaceS p i s D' B').B) else ensS p i s (L - (j + 1)) (replaceS p i s D' B').D (replaceS p i s D' B').B by
          rw [show L - j = (L - (j + 1)) + 1 by omega, ensS])
        have HU := Lib.hid (rep_used p i s D' B')
        generalize replaceS p i s D' B' = R at *
        obtain ⟨Rt, Re, RD, RB⟩ := R
        go_wp2_with fail
        refine HRP.out.mono ?_
        rintro e w3 ⟨rfl, hd3, hb3, hk3, g3⟩
        have H3 := Lib.hid (And.intro hd3 (And.intro hb3 (And.intro hk3 (HH.out.2.2.2.2.2.trans g3))))
        clear hd3 hb3 hk3 g3
        simp only
        cases Rt with
        | true =>
          have HF := Lib.hid (show ensS p i s L D B = (Re, RD, RB) by rw [← HH.out.2.2.2.2.1, HE.out, if_pos (.inl rfl)])
          go_wp2_with fail
          go_ret
          rw [HR.out, HF.out]
          exact ⟨rfl, H3.out.1, H3.out.2.1.mono (by omega), H3.out.2.2.1.moreN _ (by omega), H3.out.2.2.2⟩
        | false =>
          by_cases hre : Re = 0
          · subst hre
            have HF := Lib.hid (show ensS p i s L D B = ensS p i s (L - (j + 1)) RD RB by rw [← HH.out.2.2.2.2.1, HE.out, if_neg (by simp)])
            go_wp2_with fail
            go_roundw
            case rel => exact ⟨j + 1, RD, RB, by omega, by go_num, H3.out.1, H3.out.2.1.mono (by omega), H3.out.2.2.1, by have := HU.out rfl; rw [this, HH.out.2.2.2.1]; omega, HF.out.symm, H3.out.2.2.2⟩
            case measure => simp [intOf]; omega
          · have b1 : (Re != 0) = true := by simpa using hre
            have b2 : (Re == 0) = false := by simpa using hre
            have HF := Lib.hid (show ensS p i s L D B = (Re, RD, RB) by rw [← HH.out.2.2.2.2.1, HE.out, if_pos (.inr hre)])
            clear hre
            go_wp2_with fail
            go_ret
            rw [HR.out, HF.out]
            exact ⟨rfl, H3.out.1, H3.out.2.1.mono (by omega), H3.out.2.2.1.moreN _ (by omega), H3.out.2.2.2⟩
      · obtain rfl : j = L := by omega
        have ij : ¬ ((j : Int) < (j : Int)) := by omega
        have HF := Lib.hid (show ensS p i s j D B = (10, D', B') by rw [← HH.out.2.2.2.2.1, Nat.sub_self]; rfl)
        go_wp2_with fail
        go_ret
        rw [HR.out, HF.out]
        exact ⟨rfl, HH.out.1, HH.out.2.1.mono (by omega), HH.out.2.2.1.moreN _ (by omega), HH.out.2.2.2.2.2⟩
def writeS (p : PlanZ) (i : Int) (s : ByteArray) (D : DevS) (B : BkS) : Int × DevS × BkS :=
  if s.size ≠ 64 then (2, D, B) else if inP p i then (if (putE D (placeP p B i) s).1 ≠ 0 then ((putE D (placeP p B i) s).1, (putE D (placeP p B i) s).2, B) else ensureS p i (placeP p B i) s (putE D (placeP p B i) s).2 B) else (3, D, B)
def WrPost (w : World) (q : BkA) (a : DevA) (p : PlanZ) (m c : Nat) (X : Int × DevS × BkS) (e : Ending) (w' : World) : Prop :=
  e = .returned (.int .i64 X.1) ∧ DevIs w' a X.2.1 ∧ Bd X.2.1 (c + 1400) ∧ BkIs w' q a p X.2.2 (m + 64) ∧ Gr (q.all ++ a.all) w w'
set_option maxRecDepth 100000 in
set_option maxHeartbeats 8000000 in
theorem bwrite_any (i : Int) (s : ByteArray) (h : BkIs w q a p B m) (hd : DevIs w a D) (hb : Bd D c) (hc : c < 700000000) (hs : s.size ≤ maxLen) (hm : m < 90000000) :
    Calls Tryz.prog 169 #[.pointer (some ⟨q.b, 0, none⟩), .int .i64 i, .string s] w (WrPost w q a p m c (writeS p i s D B)) := by
  have c0 := h.c0
  have H := Lib.hid (And.intro h (And.intro hd hb))
  have HSS := Lib.hid hs
  unfold maxLen at hs
  by_cases h64 : s.size = 64
  · have b0 : ((s.size : Int) != 64) = false := by rw [h64]; rfl
    have H64 := Lib.hid h64
    by_cases hi : inP p i
    · have HW := Lib.hid (where_in i h hi)
      obtain ⟨z, hz⟩ : ∃ z, z = placeP p B i := ⟨_, rfl⟩
      rw [← hz] at HW
      have HI := Lib.hid hi
      have HX := Lib.hid (show writeS p i s D B = if (putE D z s).1 ≠ 0 then ((putE D z s).1, (putE D z s).2, B) else ensureS p i z s (putE D z s).2 B by
        unfold writeS; rw [if_neg (by simp [h64]), if_pos hi, hz])
      have HPU := Lib.hid (fun W (hW : DevIs W a D) => lput_any a D z s c W hW hb (by omega) HSS.out)
      clear h hd hb hi hz h64
      go_enter Tryz.func169, Tryz.ntmps169
      go_wp2_with fail
      refine HW.out.mono ?_
      rintro e w1 ⟨rfl, g1⟩
      have HG1 := Lib.hid g1
      have c0 := (H.out.1.gr0 g1).c0
      clear g1
      go_wp2_with fail
      refine (HPU.out _ (H.out.2.1.gr0 HG1.out)).mono ?_
      rintro e w2 ⟨rfl, hd2, hb2, g2⟩
      have H2 := Lib.hid (And.intro hd2 (And.intro hb2 (And.intro ((H.out.1.gr0 HG1.out).grD g2) (HG1.out.of0.trans g2))))
      clear hd2 hb2 g2
      obtain ⟨e1, he1⟩ : ∃ e1, e1 = (putE D z s).1 := ⟨_, rfl⟩
      obtain ⟨D1, hD1⟩ : ∃ D1, D1 = (putE D z s).2 := ⟨_, rfl⟩
      rw [← he1] at HX ⊢
      rw [← hD1] at H2 HX
      clear he1 hD1
      by_cases hz0 : e1 = 0
      · subst hz0
        rw [if_neg (by simp)] at HX
        go_wp2_with fail
        refine (ensure_any i z s H2.out.2.2.1 H2.out.1 H2.out.2.1 (by omega) HSS.out HI.out hm).mono ?_
        rw [← HX.out]
        rintro e w3 ⟨rfl, hd3, hb3, hk3, g3⟩
        have H3 := Lib.hid (And.intro hd3 (And.intro hb3 (And.intro hk3 ((H2.out.2.2.2.mono (fun b hb => by simp [hb])).trans g3))))
        clear hd3 hb3 hk3 g3
        go_wp2_with fail
        go_ret
        exact ⟨rfl, H3.out.1, H3.out.2.1.mono (by omega), H3.out.2.2.1, H3.out.2.2.2⟩
      · have b1 : (e1 != 0) = true := by simpa using hz0
        rw [if_pos hz0] at HX
        clear hz0
        go_wp2_with fail
        go_ret
        rw [HX.out]
        exact ⟨rfl, H2.out.1, H2.out.2.1.mono (by omega), H2.out.2.2.1.moreN _ (by omega), H2.out.2.2.2.mono (fun b hb => by simp [hb])⟩
    · have HW := Lib.hid (where_out i h hi)
      have HX := Lib.hid (show writeS p i s D B = (3, D, B) by unfold writeS; rw [if_neg (by simp [h64]), if_neg hi])
      clear h hd hb hi h64
      go_enter Tryz.func169, Tryz.ntmps169
      go_wp2_with fail
      refine HW.out.mono ?_
      rintro e w1 ⟨rfl, hw⟩
      rw [hw]
      go_wp2_with fail
      go_ret
      rw [HX.out]
      exact ⟨rfl, H.out.2.1, H.out.2.2.mono (by omega), H.out.1.moreN _ (by omega), Gr.refl _ _⟩
  · have b0 : ((s.size : Int) != 64) = true := by rw [bne_iff_ne]; omega
    have HX := Lib.hid (show writeS p i s D B = (2, D, B) by unfold writeS; rw [if_pos h64])
    clear h hd hb h64
    go_enter Tryz.func169, Tryz.ntmps169
    go_wp2_with fail
    go_ret
    rw [HX.out]
    exact ⟨rfl, H.out.2.1, H.out.2.2.mono (by omega), H.out.1.moreN _ (by omega), Gr.refl _ _⟩
end
end Go.Proofs.YtefmbchebobceaaGreat

/-
  Layer 5: WriteWord.
-/
namespace Go.Proofs.YtefmbchebobceaaGreat
open Go.RowKit

def updF (F : Nat → Nat) (k v : Nat) : Nat → Nat := fun j => if j = k then v else F j
def rowU (F : Nat → Nat) : Array Value := #[.int .u64 (F 0 : Int), .int .u64 (F 1 : Int), .int .u64 (F 2 : Int), .int .u64 (F 3 : Int), .int .u64 (F 4 : Int), .int .u64 (F 5 : Int), .int .u64 (F 6 : Int), .int .u64 (F 7 : Int)]
theorem lt8 {k : Nat} (h : k < 8) : k = 0 ∨ k = 1 ∨ k = 2 ∨ k = 3 ∨ k = 4 ∨ k = 5 ∨ k = 6 ∨ k = 7 := by omega
theorem rowU_get (F : Nat → Nat) {k : Nat} (h : k < 8) : (rowU F)[k]? = some (.int .u64 (F k : Int)) := by
  rcases lt8 h with rfl | rfl | rfl | rfl | rfl | rfl | rfl | rfl <;> rfl
theorem rowU_set (F : Nat → Nat) (v : Nat) {k : Nat} (h : k < 8) : (rowU F).setIfInBounds k (.int .u64 (v : Int)) = rowU (updF F k v) := by
  rcases lt8 h with rfl | rfl | rfl | rfl | rfl | rfl | rfl | rfl <;> rfl
def textU (F : Nat → Nat) : ByteArray := ⟨(catL [F 0, F 1, F 2, F 3, F 4, F 5, F 6, F 7]).toArray⟩
theorem textU_size (F : Nat → Nat) : (textU F).size = 64 := by
  show (catL _).toArray.size = 64
  rw [List.size_toArray, catL_length]; rfl
def lineF (D : DevS) (l : Nat) : Nat → Nat := fun j => loadV D (8 * l + j)
theorem lineF_text (D : DevS) (l : Nat) : (⟨(getT D l).toArray⟩ : ByteArray) = textU (lineF D l) := rfl
theorem words_textU (F : Nat → Nat) (hF : ∀ j, F j < 18446744073709551616) : wordsV (textU F) = rowU F := by
  unfold wordsV rowU
  have h := wdL_all [F 0, F 1, F 2, F 3, F 4, F 5, F 6, F 7] (fun n hn => by
    simp only [List.mem_cons, List.not_mem_nil, or_false] at hn
    rcases hn with rfl | rfl | rfl | rfl | rfl | rfl | rfl | rfl <;> exact hF _)
  have e : (textU F).data.toList = catL [F 0, F 1, F 2, F 3, F 4, F 5, F 6, F 7] := by simp [textU]
  rw [e, h 0 _ rfl, h 1 _ rfl, h 2 _ rfl, h 3 _ rfl, h 4 _ rfl, h 5 _ rfl, h 6 _ rfl, h 7 _ rfl]
def writeWordS (p : PlanZ) (i k : Int) (v : Nat) (D : DevS) (B : BkS) : Int × DevS × BkS :=
  if k < 0 ∨ 8 ≤ k then (2, D, B)
  else if inP p i then
    (if D.off then (6, D, B)
    else if (pwE D (placeP p B i) k v).1 ≠ 0 then ((pwE D (placeP p B i) k v).1, (pwE D (placeP p B i) k v).2, B)
    else ensureS p i (placeP p B i) (textU (updF (lineF D (placeP p B i).toNat) k.toNat v)) (pwE D (placeP p B i) k v).2 B)
  else (3, D, B)
end Go.Proofs.YtefmbchebobceaaGreat

/-
  Layer 5: WriteWord.
-/
namespace Go.Proofs.YtefmbchebobceaaGreat
open Go.RowKit

section
variable {w : World} {q : BkA} {a : DevA} {p : PlanZ} {B : BkS} {m c : Nat} {D : DevS}
set_option maxRecDepth 100000 in
set_option maxHeartbeats 8000000 in
theorem bww_any (i k : Int) (v : Nat) (h : BkIs w q a p B m) (hd : DevIs w a D) (hb : Bd D c) (hc : c < 700000000) (hv : v < 18446744073709551616) (hn : p.a + sizeZ p ≤ (D.n : Int)) (hm : m < 90000000) :
    Calls Tryz.prog 140 #[.pointer (some ⟨q.b, 0, none⟩), .int .i64 i, .int .i64 k, .int .u64 (v : Int)] w (WrPost w q a p m c (writeWordS p i k v D B)) := by
  have c0 := h.c0
  have H := Lib.hid (And.intro h (And.intro hd hb))
  by_cases hk : k < 0 ∨ 8 ≤ k
  · have HX := Lib.hid (show writeWordS p i k v D B = (2, D, B) by unfold writeWordS; rw [if_pos hk])
    rcases hk with hk | hk
    all_goals
      clear h hd hb
      go_enter Tryz.func140, Tryz.ntmps140
      go_wp2_with fail
      go_ret
      rw [HX.out]
      exact ⟨rfl, H.out.2.1, H.out.2.2.mono (by omega), H.out.1.moreN _ (by omega), Gr.refl _ _⟩
  · obtain ⟨kN, rfl⟩ : ∃ kN : Nat, k = (kN : Int) := ⟨k.toNat, by omega⟩
    have hk8 : kN < 8 := by omega
    have k0 : (0 : Int) ≤ (kN : Int) := by omega
    have k1 : (kN : Int) < 8 := by omega
    by_cases hi : inP p i
    · have HW := Lib.hid (where_in i h hi)
      obtain ⟨l, hl, hln⟩ := place_in h hn hi
      rw [hl] at HW
      have HI := Lib.hid hi
      by_cases ho : D.off = true
      · have HX := Lib.hid (show writeWordS p i (kN : Int) v D B = (6, D, B) by unfold writeWordS; rw [if_neg hk, if_pos hi, if_pos ho])
        have he : reachE D (isLine D (l : Int)) = 6 := by unfold reachE; rw [if_pos ho]
        have HGt := Lib.hid (fun W (hd : DevIs W a D) => get_err a D (l : Int) W hd (by rw [he]; decide))
        rw [he] at HGt
        clear h hd hb hn hi hl ho he hk
        go_enter Tryz.func140, Tryz.ntmps140
        go_wp2_with fail
        refine HW.out.mono ?_
        rintro e w1 ⟨rfl, g1⟩
        have HG1 := Lib.hid g1
        have c0 := (H.out.1.gr0 g1).c0
        clear g1
        go_wp2_with fail
        refine (HGt.out _ (H.out.2.1.gr0 HG1.out)).mono ?_
        rintro e w2 ⟨rfl, rfl⟩
        go_wp2_with fail
        go_ret
        rw [HX.out]
        exact ⟨rfl, H.out.2.1.gr0 HG1.out, H.out.2.2.mono (by omega), (H.out.1.gr0 HG1.out).moreN _ (by omega), HG1.out.of0⟩
      · have ho : D.off = false := by simpa using ho
        have hF : ∀ j, lineF D l j < 18446744073709551616 := fun j => loadV_lt hd.ok _
        obtain ⟨F, hFe⟩ : ∃ F, F = lineF D l := ⟨_, rfl⟩
        rw [← hFe] at hF
        have HX := Lib.hid (show writeWordS p i (kN : Int) v D B = if (pwE D (l : Int) (kN : Int) v).1 ≠ 0 then ((pwE D (l : Int) (kN : Int) v).1, (pwE D (l : Int) (kN : Int) v).2, B) else ensureS p i (l : Int) (textU (updF F kN v)) (pwE D (l : Int) (kN : Int) v).2 B by
          unfold writeWordS; rw [if_neg hk, if_pos hi, ho, hl, hFe]; simp)
        have HGt := Lib.hid (fun W (hd : DevIs W a D) => get_yes a D l W hd hln ho)
        rw [lineF_text, ← hFe] at HGt
        have HWd := Lib.hid (fun W => words_ok (textU F) W (textU_size F))
        rw [words_textU F hF] at HWd
        have hF2 : ∀ j, updF F kN v j < 18446744073709551616 := fun j => by unfold updF; split; exact hv; exact hF j
        have HTx := Lib.hid (fun W => text_any (updF F kN v 0) (updF F kN v 1) (updF F kN v 2) (updF F kN v 3) (updF F kN v 4) (updF F kN v 5) (updF F kN v 6) (updF F kN v 7) (fun n hn => by
          simp only [List.mem_cons, List.not_mem_nil, or_false] at hn
          rcases hn with rfl | rfl | rfl | rfl | rfl | rfl | rfl | rfl <;> exact hF2 _) W)
        have HPW := Lib.hid (fun W (hW : DevIs W a D) => putword_any a D (l : Int) (kN : Int) v c W hW hb (by omega) hv)
        have HK := Lib.hid hk8
        clear h hd hb hn hi hl ho hk hF hF2 hFe hln
        obtain ⟨T, hT⟩ : ∃ T, T = textU F := ⟨_, rfl⟩
        rw [← hT] at HGt HWd
        clear hT
        go_enter Tryz.func140, Tryz.ntmps140
        go_wp2_with fail
        refine HW.out.mono ?_
        rintro e w1 ⟨rfl, g1⟩
        have HG1 := Lib.hid g1
        have c0 := (H.out.1.gr0 g1).c0
        clear g1
        go_wp2_with fail
        refine (HGt.out _ (H.out.2.1.gr0 HG1.out)).mono ?_
        rintro e w2 ⟨rfl, g2⟩
        have HG2 := Lib.hid (HG1.out.next0 g2)
        clear g2
        go_wp2_with fail
        refine (HWd.out _).mono ?_
        rintro e w3 ⟨rfl, g3⟩
        have HG3 := Lib.hid (HG2.out.next0 g3)
        clear g3
        unfold rowU
        go_upto_region 14 with fail
        have hH : Holds _ w3.heap.size (rowU F) 148 := Holds.new w3 #[.int .u64 (F 0 : Int), .int .u64 (F 1 : Int), .int .u64 (F 2 : Int), .int .u64 (F 3 : Int), .int .u64 (F 4 : Int), .int .u64 (F 5 : Int), .int .u64 (F 6 : Int), .int .u64 (F 7 : Int)] 148
        have gA := (Gr.refl [] w3).alloc (Obj.cells #[.int .u64 (F 0 : Int), .int .u64 (F 1 : Int), .int .u64 (F 2 : Int), .int .u64 (F 3 : Int), .int .u64 (F 4 : Int), .int .u64 (F 5 : Int), .int .u64 (F 6 : Int), .int .u64 (F 7 : Int)] 148)
        have HNB := Lib.hid (show w3.heap.size ∉ a.all ∧ w3.heap.size ∉ q.all from ⟨fun e => by have := (H.out.2.1.gr0 HG3.out).lt _ e; omega, fun e => by have := (H.out.1.gr0 HG3.out).lt _ e; omega⟩)
        have HW4 := Lib.hid (Nat.le_trans HG3.out.size (Nat.le_refl w3.heap.size))
        have HG4 := Lib.hid (HG3.out.trans gA)
        clear gA HG3
        generalize w3.alloc (Obj.cells #[.int .u64 (F 0 : Int), .int .u64 (F 1 : Int), .int .u64 (F 2 : Int), .int .u64 (F 3 : Int), .int .u64 (F 4 : Int), .int .u64 (F 5 : Int), .int .u64 (F 6 : Int), .int .u64 (F 7 : Int)] 148) = w4 at *
        obtain ⟨nb, hnb⟩ : ∃ nb, w3.heap.size = nb := ⟨_, rfl⟩
        rw [hnb] at hH HNB HW4 ⊢
        clear hnb
        have st1 := (hH.cell kN).trans (rowU_get F HK.out)
        have st2 := hH.frozen kN
        have hset := hH.set kN (.int .u64 (v : Int))
        rw [rowU_set F v HK.out] at hset
        have g5 : Gr [] w (w4.setCell ⟨nb, kN, none⟩ (.int .u64 (v : Int))) := HG4.out.setCell (p := ⟨nb, kN, none⟩) (.inr HW4.out) _
        have g45 : Gr [nb] w4 (w4.setCell ⟨nb, kN, none⟩ (.int .u64 (v : Int))) := (Gr.refl [nb] w4).setCell (p := ⟨nb, kN, none⟩) (.inl (by simp)) _
        have H5 := Lib.hid (And.intro (H.out.1.gr0 g5) (And.intro (H.out.2.1.gr0 g5) (And.intro hset g5)))
        clear hH hset g5 g45 HG4
        go_upto_region 15 with fail
        clear st1 st2
        generalize w4.setCell ⟨nb, kN, none⟩ (.int .u64 (v : Int)) = w5 at *
        have c0 := H5.out.1.c0
        go_wp2_with fail
        refine (HPW.out _ H5.out.2.1).mono ?_
        rintro e w6 ⟨rfl, hd6, hb6, g6⟩
        have H6 := Lib.hid (And.intro hd6 (And.intro hb6 (And.intro (H5.out.1.grD g6) (And.intro (H5.out.2.2.1.gr g6 HNB.out.1) (H5.out.2.2.2.of0.trans g6)))))
        clear hd6 hb6 g6 H5
        obtain ⟨e1, he1⟩ : ∃ e1, e1 = (pwE D (l : Int) (kN : Int) v).1 := ⟨_, rfl⟩
        obtain ⟨D1, hD1⟩ : ∃ D1, D1 = (pwE D (l : Int) (kN : Int) v).2 := ⟨_, rfl⟩
        rw [← he1] at HX ⊢
        rw [← hD1] at H6 HX
        clear he1 hD1
        by_cases hz0 : e1 = 0
        · subst hz0
          rw [if_neg (by simp)] at HX
          have y0 := (H6.out.2.2.2.1.cell 0)
          have y1 := (H6.out.2.2.2.1.cell 1)
          have y2 := (H6.out.2.2.2.1.cell 2)
          have y3 := (H6.out.2.2.2.1.cell 3)
          have y4 := (H6.out.2.2.2.1.cell 4)
          have y5 := (H6.out.2.2.2.1.cell 5)
          have y6 := (H6.out.2.2.2.1.cell 6)
          have y7 := (H6.out.2.2.2.1.cell 7)
          rw [rowU_get _ (by omega)] at y0 y1 y2 y3 y4 y5 y6 y7
          have HEn := Lib.hid (fun W (g : Gr [] w6 W) => ensure_any (m := m) i (l : Int) (textU (updF F kN v)) (H6.out.2.2.1.gr0 g) (H6.out.1.gr0 g) H6.out.2.1 (by omega) (by rw [textU_size]; unfold maxLen; omega) HI.out hm)
          rw [← HX.out] at HEn
          go_wp2_with fail
          refine (HTx.out _).mono ?_
          rintro e w7 ⟨rfl, b7⟩
          have g7 := Gr.ofBelow (cs := []) b7
          have HG7 := Lib.hid g7
          clear b7 g7
          go_wp2_with fail
          refine (HEn.out _ HG7.out).mono ?_
          rintro e w8 ⟨rfl, hd8, hb8, hk8', g8⟩
          have H8 := Lib.hid (And.intro hd8 (And.intro hb8 (And.intro hk8' (((H6.out.2.2.2.2.mono (fun b hb => by simp [hb])).next0 HG7.out).trans g8))))
          clear hd8 hb8 hk8' g8
          go_wp2_with fail
          go_ret
          exact ⟨rfl, H8.out.1, H8.out.2.1.mono (by omega), H8.out.2.2.1, H8.out.2.2.2⟩
        · have b1 : (e1 != 0) = true := by simpa using hz0
          rw [if_pos hz0] at HX
          clear hz0
          go_wp2_with fail
          go_ret
          rw [HX.out]
          exact ⟨rfl, H6.out.1, H6.out.2.1.mono (by omega), H6.out.2.2.1.moreN _ (by omega), H6.out.2.2.2.2.mono (fun b hb => by simp [hb])⟩
    · have HW := Lib.hid (where_out i h hi)
      have HX := Lib.hid (show writeWordS p i (kN : Int) v D B = (3, D, B) by unfold writeWordS; rw [if_neg hk, if_neg hi])
      clear h hd hb hi hk
      go_enter Tryz.func140, Tryz.ntmps140
      go_wp2_with fail
      refine HW.out.mono ?_
      rintro e w1 ⟨rfl, hw⟩
      rw [hw]
      go_wp2_with fail
      go_ret
      rw [HX.out]
      exact ⟨rfl, H.out.2.1, H.out.2.2.mono (by omega), H.out.1.moreN _ (by omega), Gr.refl _ _⟩
end
end Go.Proofs.YtefmbchebobceaaGreat

/-
  Contracts of package gap's functions.
-/
namespace Go.Proofs.YtefmbchebobceaaGreat
open Go.RowKit

def rightS (s g n : Int) : Prop := 1 ≤ n ∧ n ≤ 1024 ∧ 0 ≤ s ∧ s < n ∧ 0 ≤ g ∧ g ≤ n
instance (s g n : Int) : Decidable (rightS s g n) := by unfold rightS; infer_instance
def stC (s g m : Int) : Obj := .cells #[.int .i64 s, .int .i64 g, .int .u32 m] 216

theorem ring_yes (n : Int) (w : World) (h1 : 1 ≤ n) (h2 : n ≤ 1024) : Calls Tryz.prog 194 #[.int .i64 n] w fun e w' => e = .returned (.bool true) ∧ w = w' := by
  go_enter Tryz.func194, Tryz.ntmps194
  go_wp2
  go_ret
  exact ⟨by first | rfl | (simp; omega), rfl⟩
theorem ring_no (n : Int) (w : World) (h : n < 1 ∨ (1 ≤ n ∧ 1024 < n)) : Calls Tryz.prog 194 #[.int .i64 n] w fun e w' => e = .returned (.bool false) ∧ w = w' := by
  rcases h with h | ⟨h, h'⟩
  all_goals
    go_enter Tryz.func194, Tryz.ntmps194
    go_wp2
    go_ret
    exact ⟨by first | rfl | (simp; omega), rfl⟩

set_option maxHeartbeats 800000 in
theorem right_yes (s g m n : Int) (w : World) (h : rightS s g n) : Calls Tryz.prog 148 #[.agg #[.int .i64 s, .int .i64 g, .int .u32 m], .int .i64 n] w fun e w' => e = .returned (.bool true) ∧ w.alloc (stC s g m) = w' := by
  obtain ⟨h1, h2, h3, h4, h5, h6⟩ := h
  go_enter Tryz.func148, Tryz.ntmps148
  go_wp2_with (go_at_call 194; refine (ring_yes _ _ (by omega) (by omega)).mono ?_; rintro e w' ⟨rfl, rfl⟩)
  go_ret
  exact ⟨by first | rfl | (simp; omega), rfl⟩
def slotI (s g n i : Int) : Int := if (i + s) % n < g then (i + s) % n else (i + s) % n + 1
set_option maxHeartbeats 800000 in
theorem slot_yes (s g m n i : Int) (w : World) (h : rightS s g n) (h0 : 0 ≤ i) (h1 : i < n) :
    Calls Tryz.prog 188 #[.agg #[.int .i64 s, .int .i64 g, .int .u32 m], .int .i64 n, .int .i64 i] w fun e w' => e = .returned (.int .i64 (slotI s g n i)) ∧ Below w.heap.size w w' := by
  have H := Lib.hid h
  obtain ⟨a1, a2, a3, a4, a5, a6⟩ := h
  have q1 := Int.emod_nonneg (i + s) (show n ≠ 0 by omega)
  have q2 := Int.emod_lt_of_pos (i + s) (show 0 < n by omega)
  by_cases c : (i + s) % n < g
  · have e : slotI s g n i = (i + s) % n := by unfold slotI; rw [if_pos c]
    rw [e]
    clear e
    go_enter Tryz.func188, Tryz.ntmps188
    go_wp2_with (go_at_call 148; refine (right_yes _ _ _ _ _ H.out).mono ?_; rintro e w' ⟨rfl, rfl⟩; unfold stC)
    go_ret
    exact ⟨rfl, by go_grown⟩
  · have e : slotI s g n i = (i + s) % n + 1 := by unfold slotI; rw [if_neg c]
    rw [e]
    clear e
    go_enter Tryz.func188, Tryz.ntmps188
    go_wp2_with (go_at_call 148; refine (right_yes _ _ _ _ _ H.out).mono ?_; rintro e w' ⟨rfl, rfl⟩; unfold stC)
    go_ret
    exact ⟨rfl, by go_grown⟩
end Go.Proofs.YtefmbchebobceaaGreat

/-
  Contracts of gap's Next and First.
-/
namespace Go.Proofs.YtefmbchebobceaaGreat
open Go.RowKit

def m1 (m : Int) : Int := (m + 1) % 4294967296

set_option maxHeartbeats 800000 in
theorem next_pos (s g m n : Int) (w : World) (h : rightS s g n) (hg : 0 < g) (hm : 0 ≤ m ∧ m ≤ 4294967295) :
    Calls Tryz.prog 235 #[.agg #[.int .i64 s, .int .i64 g, .int .u32 m], .int .i64 n] w fun e w' => e = .returned (.tuple #[.agg #[.int .i64 s, .int .i64 (g - 1), .int .u32 (m1 m)], .int .i64 (g - 1), .int .i64 g]) ∧ Below w.heap.size w w' := by
  have H := Lib.hid h
  obtain ⟨a1, a2, a3, a4, a5, a6⟩ := h
  go_enter Tryz.func235, Tryz.ntmps235
  go_wp2_with (go_at_call 148; refine (right_yes _ _ _ _ _ H.out).mono ?_; rintro e w' ⟨rfl, rfl⟩; unfold stC)
  go_region
  go_wp2
  exact bodyPost_ret (v := .tuple #[(.agg #[.int .i64 s, .int .i64 (g - 1), .int .u32 ((m + 1) % 4294967296)]), .int .i64 (g - 1), .int .i64 g]) (by simp [results, Tryz.results235, go_sem]) rfl ⟨rfl, by go_grown⟩
set_option maxHeartbeats 800000 in
theorem next_zero (s m n : Int) (w : World) (h : rightS s 0 n) (hm : 0 ≤ m ∧ m ≤ 4294967295) :
    Calls Tryz.prog 235 #[.agg #[.int .i64 s, .int .i64 0, .int .u32 m], .int .i64 n] w fun e w' => e = .returned (.tuple #[.agg #[.int .i64 ((s + 1) % n), .int .i64 n, .int .u32 (m1 m)], .int .i64 n, .int .i64 0]) ∧ Below w.heap.size w w' := by
  have H := Lib.hid h
  obtain ⟨a1, a2, a3, a4, a5, a6⟩ := h
  go_enter Tryz.func235, Tryz.ntmps235
  go_wp2_with (go_at_call 148; refine (right_yes _ _ _ _ _ H.out).mono ?_; rintro e w' ⟨rfl, rfl⟩; unfold stC)
  exact bodyPost_ret (v := .tuple #[(.agg #[.int .i64 ((s + 1) % n), .int .i64 n, .int .u32 ((m + 1) % 4294967296)]), .int .i64 n, .int .i64 0]) (by simp [results, Tryz.results235, go_sem]) rfl ⟨rfl, by go_grown⟩
theorem first_any (n : Int) (w : World) (h1 : 1 ≤ n) (h2 : n ≤ 1024) :
    Calls Tryz.prog 142 #[.int .i64 n] w fun e w' => e = .returned (.agg #[.int .i64 0, .int .i64 n, .int .u32 0]) ∧ Below w.heap.size w w' := by
  go_enter Tryz.func142, Tryz.ntmps142
  go_wp2_with (go_at_call 194; refine (ring_yes _ _ (by omega) (by omega)).mono ?_; rintro e w' ⟨rfl, rfl⟩)
  exact bodyPost_ret (v := .agg #[.int .i64 0, .int .i64 n, .int .u32 0]) (by simp [results, Tryz.results142, go_sem]) rfl ⟨rfl, by go_grown⟩
end Go.Proofs.YtefmbchebobceaaGreat

/-
  Contracts of the helpers of layer 6's statements.
-/
namespace Go.Proofs.YtefmbchebobceaaGreat
open Go.RowKit

/-! ### The state behind so many moves, in numbers -/
theorem div_next (j M : Nat) (_hM : 0 < M) (h : j % M + 1 < M) : (j + 1) / M = j / M ∧ (j + 1) % M = j % M + 1 := by
  have e : j + 1 = M * (j / M) + (j % M + 1) := by have := Nat.div_add_mod j M; omega
  constructor
  · conv => lhs; rw [e]
    rw [Nat.mul_add_div (by omega), Nat.div_eq_of_lt h, Nat.add_zero]
  · conv => lhs; rw [e]
    rw [Nat.mul_add_mod, Nat.mod_eq_of_lt h]
theorem div_wrap (j M : Nat) (_hM : 0 < M) (h : ¬ j % M + 1 < M) : (j + 1) / M = j / M + 1 ∧ (j + 1) % M = 0 := by
  have hl := Nat.mod_lt j (show 0 < M by omega)
  have e : j + 1 = M * (j / M + 1) := by have := Nat.div_add_mod j M; rw [Nat.mul_add]; omega
  constructor
  · conv => lhs; rw [e]
    rw [Nat.mul_div_cancel_left _ (by omega)]
  · conv => lhs; rw [e]
    rw [Nat.mul_mod_right]

def sAt (m j : Nat) : Int := ((j / (m + 1) % m : Nat) : Int)
def gAt (m j : Nat) : Int := (m : Int) - ((j % (m + 1) : Nat) : Int)
theorem at_right (m j : Nat) (h1 : 1 ≤ m) (h2 : m ≤ 1024) : rightS (sAt m j) (gAt m j) m := by
  unfold rightS sAt gAt
  have a := Nat.mod_lt (j / (m + 1)) (show 0 < m by omega)
  have b := Nat.mod_lt j (show 0 < m + 1 by omega)
  omega
theorem at_pos (m j : Nat) (_h1 : 1 ≤ m) (h : 0 < gAt m j) : sAt m (j + 1) = sAt m j ∧ gAt m (j + 1) = gAt m j - 1 := by
  unfold gAt at h
  obtain ⟨a, b⟩ := div_next j (m + 1) (by omega) (by omega)
  unfold sAt gAt
  rw [a, b]
  exact ⟨rfl, by omega⟩
theorem at_zero (m j : Nat) (h1 : 1 ≤ m) (h : gAt m j = 0) : sAt m (j + 1) = (sAt m j + 1) % m ∧ gAt m (j + 1) = m := by
  unfold gAt at h
  obtain ⟨a, b⟩ := div_wrap j (m + 1) (by omega) (by omega)
  unfold sAt gAt
  rw [a, b]
  constructor
  · have : (j / (m + 1) + 1) % m = (j / (m + 1) % m + 1) % m := by rw [Nat.mod_add_mod]
    rw [this]; rfl
  · simp

/-! ### A block that holds a state -/
def StB (w : World) (b : Nat) (s g m : Int) : Prop := w.heap[b]? = some (stC s g m)
section
variable {w w' : World} {b : Nat} {s g m : Int}
theorem StB.lt (h : StB w b s g m) : b < w.heap.size := (Array.getElem?_eq_some_iff.1 h).1
end

end Go.Proofs.YtefmbchebobceaaGreat
