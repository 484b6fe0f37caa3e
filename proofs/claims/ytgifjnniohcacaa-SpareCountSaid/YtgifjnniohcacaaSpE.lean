/-
  Layer 5: ensure, Write.
-/
import Derived.Test.YtgifjnniohcacaaSpD
namespace Go.Proofs.Ytgifjnniohcacaa
open Go.RowKit

def ensS (p : PlanZ) (i : Int) (s : ByteArray) : Nat → DevS → BkS → Int × DevS × BkS
  | 0, D, B => (10, D, B)
  | n + 1, D, B => if (replaceS p i s D B).t = true ∨ (replaceS p i s D B).e ≠ 0 then ((replaceS p i s D B).e, (replaceS p i s D B).D, (replaceS p i s D B).B) else ensS p i s n (replaceS p i s D B).D (replaceS p i s D B).B
def ensureS (p : PlanZ) (i z : Int) (s : ByteArray) (D : DevS) (B : BkS) : Int × DevS × BkS := if tookB D z s then (0, D, B) else ensS p i s (p.s - B.used).toNat D B
def EnsPost (w : World) (q : BkA) (a : DevA) (p : PlanZ) (m c : Nat) (X : Int × DevS × BkS) (e : Ending) (w' : World) : Prop :=
  e = .returned (.int .i64 X.1) ∧ DevIs w' a X.2.1 ∧ Bd X.2.1 (c + 1300) ∧ BkIs w' q a p X.2.2 (m + 64) ∧ Gr (q.all ++ a.all) w w'
section
variable {w : World} {q : BkA} {a : DevA} {p : PlanZ} {B : BkS} {m c : Nat} {D : DevS}
theorem BkIs.moreN (h : BkIs w q a p B m) (k : Nat) (hk : m ≤ k) : BkIs w q a p B k := ⟨h.head, h.map.mono hk, h.ok, h.us, h.rg, h.ne, h.sep⟩
theorem rep_used (p : PlanZ) (i : Int) (s : ByteArray) (D : DevS) (B : BkS) (he : (replaceS p i s D B).e = 0) : (replaceS p i s D B).B.used = B.used + 1 := by
  unfold replaceS at he ⊢
  split
  · rename_i h
    rw [if_pos h] at he
    exact absurd he h
  · rename_i h
    rw [if_neg h] at he
    split
    · rename_i h2
      rw [if_pos h2] at he
      exact absurd he h2
    · rfl
set_option maxRecDepth 100000 in
set_option maxHeartbeats 8000000 in
theorem ensure_any (i z : Int) (s : ByteArray) (h : BkIs w q a p B m) (hd : DevIs w a D) (hb : Bd D c) (hc : c < 800000) (hs : s.size ≤ maxLen) (hi : inP p i) (hm : m < 90000) :
    Calls Try.prog 39 #[.pointer (some ⟨q.b, 0, none⟩), .int .i64 i, .int .i64 z, .string s] w (EnsPost w q a p m c (ensureS p i z s D B)) := by
  have c0 := h.c0
  have H := Lib.hid (And.intro h (And.intro hd hb))
  have HSS := Lib.hid (And.intro hs hi)
  have HT := Lib.hid (took_any a D z s w hd hs)
  cases htk : tookB D z s with
  | true =>
    rw [htk] at HT
    have HR := Lib.hid (show ensureS p i z s D B = (0, D, B) by unfold ensureS; rw [if_pos htk])
    clear h hd hb hs hi htk
    go_enter Try.func39, Try.ntmps39
    go_wp2_with fail
    refine HT.out.mono ?_
    rintro e w1 ⟨rfl, g1⟩
    have HG := Lib.hid g1
    clear g1
    go_wp2_with fail
    go_ret
    rw [HR.out]
    exact ⟨rfl, H.out.2.1.gr0 HG.out, H.out.2.2.mono (by omega), (H.out.1.gr0 HG.out).moreN _ (by omega), HG.out.of0⟩
  | false =>
    rw [htk] at HT
    obtain ⟨L, hL⟩ : ∃ L : Nat, p.s - (B.used : Int) = (L : Int) := ⟨(p.s - (B.used : Int)).toNat, by have := h.us; omega⟩
    have hL64 : L ≤ 64 := by have := ((okZ_iff _).1 h.ok).2.2.2.2.2; omega
    have HR := Lib.hid (show ensureS p i z s D B = ensS p i s L D B by unfold ensureS; rw [htk, hL]; simp)
    have HLs := Lib.hid hL
    have HLF := Lib.hid (fun W (hW : BkIs W q a p B m) => left_at hW)
    rw [hL] at HLF
    clear h hd hb hs hi htk hL
    go_enter Try.func39, Try.ntmps39
    go_wp2_with fail
    refine HT.out.mono ?_
    rintro e w1 ⟨rfl, g1⟩
    have HG := Lib.hid g1
    clear g1
    go_wp2_with fail
    refine (HLF.out _ (H.out.1.gr0 HG.out)).mono ?_
    rintro e w2 ⟨rfl, g2⟩
    have HG2 := Lib.hid (HG.out.next0 g2)
    clear g2
    go_wp2_with fail
    go_loopw [20] (fun k wr => ∃ (j : Nat) (D' : DevS) (B' : BkS), j ≤ L ∧ k = .int .i64 j ∧ DevIs wr a D' ∧ Bd D' (c + 20 * j) ∧ BkIs wr q a p B' (m + j) ∧ B'.used = B.used + j ∧ ensS p i s (L - j) D' B' = ensS p i s L D B ∧ Gr (q.all ++ a.all) w wr) (fun k _ => L - (intOf k).toNat)
    case atStart => exact ⟨0, D, B, by omega, rfl, H.out.2.1.gr0 HG2.out, H.out.2.2, H.out.1.gr0 HG2.out, rfl, rfl, HG2.out.of0⟩
    case round =>
      obtain ⟨j, D', B', hj, rfl, hd', hb', hk', hu', he', g'⟩ := hrel
      have HH := Lib.hid (And.intro hd' (And.intro hb' (And.intro hk' (And.intro hu' (And.intro he' g')))))
      clear hd' hb' hk' hu' he' g'
      by_cases hjL : j < L
      · have ij : (j : Int) < (L : Int) := by omega
        have HRP := Lib.hid (replace_any i s HH.out.2.2.1 HH.out.1 HH.out.2.1 (by omega) HSS.out.1 HSS.out.2 (by have := HLs.out; have := HH.out.2.2.2.1; omega) (by omega))
        have HE := Lib.hid (show ensS p i s (L - j) D' B' = if (replaceS p i s D' B').t = true ∨ (replaceS p i s D' B').e ≠ 0 then ((replaceS p i s D' B').e, (replaceS p i s D' B').D, (replaceS p i s D' B').B) else ensS p i s (L - (j + 1)) (replaceS p i s D' B').D (replaceS p i s D' B').B by
          rw [show L - j = (L - (j + 1)) + 1 by omega, ensS])
        have HU := Lib.hid (rep_used p i s D' B')
        generalize replaceS p i s D' B' = R at *
        obtain ⟨Rt, Re, RD, RB⟩ := R
        go_wp2_with fail
        refine HRP.out.mono ?_
        rintro e w3 ⟨rfl, hd3, hb3, hk3, g3⟩
        have H3 := Lib.hid (And.intro hd3 (And.intro hb3 (And.intro hk3 (HH.out.2.2.2.2.2.trans g3))))
        clear hd3 hb3 hk3 g3
        simp only
        cases Rt with
        | true =>
          have HF := Lib.hid (show ensS p i s L D B = (Re, RD, RB) by rw [← HH.out.2.2.2.2.1, HE.out, if_pos (.inl rfl)])
          go_wp2_with fail
          go_ret
          rw [HR.out, HF.out]
          exact ⟨rfl, H3.out.1, H3.out.2.1.mono (by omega), H3.out.2.2.1.moreN _ (by omega), H3.out.2.2.2⟩
        | false =>
          by_cases hre : Re = 0
          · subst hre
            have HF := Lib.hid (show ensS p i s L D B = ensS p i s (L - (j + 1)) RD RB by rw [← HH.out.2.2.2.2.1, HE.out, if_neg (by simp)])
            go_wp2_with fail
            go_roundw
            case rel => exact ⟨j + 1, RD, RB, by omega, by go_num, H3.out.1, H3.out.2.1.mono (by omega), H3.out.2.2.1, by have := HU.out rfl; rw [this, HH.out.2.2.2.1]; omega, HF.out.symm, H3.out.2.2.2⟩
            case measure => simp [intOf]; omega
          · have b1 : (Re != 0) = true := by simpa using hre
            have b2 : (Re == 0) = false := by simpa using hre
            have HF := Lib.hid (show ensS p i s L D B = (Re, RD, RB) by rw [← HH.out.2.2.2.2.1, HE.out, if_pos (.inr hre)])
            clear hre
            go_wp2_with fail
            go_ret
            rw [HR.out, HF.out]
            exact ⟨rfl, H3.out.1, H3.out.2.1.mono (by omega), H3.out.2.2.1.moreN _ (by omega), H3.out.2.2.2⟩
      · obtain rfl : j = L := by omega
        have ij : ¬ ((j : Int) < (j : Int)) := by omega
        have HF := Lib.hid (show ensS p i s j D B = (10, D', B') by rw [← HH.out.2.2.2.2.1, Nat.sub_self]; rfl)
        go_wp2_with fail
        go_ret
        rw [HR.out, HF.out]
        exact ⟨rfl, HH.out.1, HH.out.2.1.mono (by omega), HH.out.2.2.1.moreN _ (by omega), HH.out.2.2.2.2.2⟩
def writeS (p : PlanZ) (i : Int) (s : ByteArray) (D : DevS) (B : BkS) : Int × DevS × BkS :=
  if s.size ≠ 64 then (2, D, B) else if inP p i then (if (putE D (placeP p B i) s).1 ≠ 0 then ((putE D (placeP p B i) s).1, (putE D (placeP p B i) s).2, B) else ensureS p i (placeP p B i) s (putE D (placeP p B i) s).2 B) else (3, D, B)
/-- What a write leaves. -/
def WrPost (w : World) (q : BkA) (a : DevA) (p : PlanZ) (m c : Nat) (X : Int × DevS × BkS) (e : Ending) (w' : World) : Prop :=
  e = .returned (.int .i64 X.1) ∧ DevIs w' a X.2.1 ∧ Bd X.2.1 (c + 1400) ∧ BkIs w' q a p X.2.2 (m + 64) ∧ Gr (q.all ++ a.all) w w'
theorem bwrite_nil (i : Int) (s : ByteArray) (w : World) : Calls Try.prog 18 #[.pointer none, .int .i64 i, .string s] w fun e w' => e = .returned (.int .i64 1) ∧ w' = w := by
  go_enter Try.func18, Try.ntmps18
  go_wp2_with fail
  go_ret
  exact ⟨rfl, rfl⟩
set_option maxRecDepth 100000 in
set_option maxHeartbeats 8000000 in
theorem bwrite_any (i : Int) (s : ByteArray) (h : BkIs w q a p B m) (hd : DevIs w a D) (hb : Bd D c) (hc : c < 700000) (hs : s.size ≤ maxLen) (hm : m < 90000) :
    Calls Try.prog 18 #[.pointer (some ⟨q.b, 0, none⟩), .int .i64 i, .string s] w (WrPost w q a p m c (writeS p i s D B)) := by
  have c0 := h.c0
  have H := Lib.hid (And.intro h (And.intro hd hb))
  have HSS := Lib.hid hs
  unfold maxLen at hs
  by_cases h64 : s.size = 64
  · have b0 : ((s.size : Int) != 64) = false := by rw [h64]; rfl
    have H64 := Lib.hid h64
    by_cases hi : inP p i
    · have HW := Lib.hid (where_in i h hi)
      obtain ⟨z, hz⟩ : ∃ z, z = placeP p B i := ⟨_, rfl⟩
      rw [← hz] at HW
      have HI := Lib.hid hi
      have HX := Lib.hid (show writeS p i s D B = if (putE D z s).1 ≠ 0 then ((putE D z s).1, (putE D z s).2, B) else ensureS p i z s (putE D z s).2 B by
        unfold writeS; rw [if_neg (by simp [h64]), if_pos hi, hz])
      have HPU := Lib.hid (fun W (hW : DevIs W a D) => lput_any a D z s c W hW hb (by omega) HSS.out)
      clear h hd hb hi hz h64
      go_enter Try.func18, Try.ntmps18
      go_wp2_with fail
      refine HW.out.mono ?_
      rintro e w1 ⟨rfl, g1⟩
      have HG1 := Lib.hid g1
      have c0 := (H.out.1.gr0 g1).c0
      clear g1
      go_wp2_with fail
      refine (HPU.out _ (H.out.2.1.gr0 HG1.out)).mono ?_
      rintro e w2 ⟨rfl, hd2, hb2, g2⟩
      have H2 := Lib.hid (And.intro hd2 (And.intro hb2 (And.intro ((H.out.1.gr0 HG1.out).grD g2) (HG1.out.of0.trans g2))))
      clear hd2 hb2 g2
      obtain ⟨e1, he1⟩ : ∃ e1, e1 = (putE D z s).1 := ⟨_, rfl⟩
      obtain ⟨D1, hD1⟩ : ∃ D1, D1 = (putE D z s).2 := ⟨_, rfl⟩
      rw [← he1] at HX ⊢
      rw [← hD1] at H2 HX
      clear he1 hD1
      by_cases hz0 : e1 = 0
      · subst hz0
        rw [if_neg (by simp)] at HX
        go_wp2_with fail
        refine (ensure_any i z s H2.out.2.2.1 H2.out.1 H2.out.2.1 (by omega) HSS.out HI.out hm).mono ?_
        rw [← HX.out]
        rintro e w3 ⟨rfl, hd3, hb3, hk3, g3⟩
        have H3 := Lib.hid (And.intro hd3 (And.intro hb3 (And.intro hk3 ((H2.out.2.2.2.mono (fun b hb => by simp [hb])).trans g3))))
        clear hd3 hb3 hk3 g3
        go_wp2_with fail
        go_ret
        exact ⟨rfl, H3.out.1, H3.out.2.1.mono (by omega), H3.out.2.2.1, H3.out.2.2.2⟩
      · have b1 : (e1 != 0) = true := by simpa using hz0
        rw [if_pos hz0] at HX
        clear hz0
        go_wp2_with fail
        go_ret
        rw [HX.out]
        exact ⟨rfl, H2.out.1, H2.out.2.1.mono (by omega), H2.out.2.2.1.moreN _ (by omega), H2.out.2.2.2.mono (fun b hb => by simp [hb])⟩
    · have HW := Lib.hid (where_out i h hi)
      have HX := Lib.hid (show writeS p i s D B = (3, D, B) by unfold writeS; rw [if_neg (by simp [h64]), if_neg hi])
      clear h hd hb hi h64
      go_enter Try.func18, Try.ntmps18
      go_wp2_with fail
      refine HW.out.mono ?_
      rintro e w1 ⟨rfl, hw⟩
      rw [hw]
      go_wp2_with fail
      go_ret
      rw [HX.out]
      exact ⟨rfl, H.out.2.1, H.out.2.2.mono (by omega), H.out.1.moreN _ (by omega), Gr.refl _ _⟩
  · have b0 : ((s.size : Int) != 64) = true := by rw [bne_iff_ne]; omega
    have HX := Lib.hid (show writeS p i s D B = (2, D, B) by unfold writeS; rw [if_pos h64])
    clear h hd hb h64
    go_enter Try.func18, Try.ntmps18
    go_wp2_with fail
    go_ret
    rw [HX.out]
    exact ⟨rfl, H.out.2.1, H.out.2.2.mono (by omega), H.out.1.moreN _ (by omega), Gr.refl _ _⟩
end
end Go.Proofs.Ytgifjnniohcacaa
