/-
  Layer 4: what a Put leaves on a device that is on, with no fuse, with nothing pending; wakes.
-/
import Derived.Test.YtphaaebbofgdnaaLnC
namespace Go.Proofs.Ytphaaebbofgdnaa
open Go.RowKit

structure Calm (D : DevS) : Prop where
  off : D.off = false
  fuse : D.fuse = 0
  buf : ∀ z, D.buf z = none
/-- i words from B on are stored. -/
structure Sto (D D' : DevS) (B i : Nat) (f : Nat → Nat) : Prop where
  n : D'.n = D.n
  off : D'.off = false
  fuse : D'.fuse = 0
  bad : D'.bad = D.bad
  med : D'.med = D.med
  cnt : D'.cnt = D.cnt + i
  buf : ∀ z : Int, D'.buf z = if (B : Int) ≤ z ∧ z < (B : Int) + i then some (f (z - B).toNat, false) else none
/-- m words from B on, in line l, last. -/
structure PutS (D D' : DevS) (l B m : Nat) (f : Nat → Nat) : Prop where
  n : D'.n = D.n
  calm : Calm D'
  bad : D'.bad = D.bad
  cnt : D'.cnt = D.cnt + m + 2
  med : ∀ x, D'.med x = if B ≤ x ∧ x < B + m ∧ D.bad l = false then f (x - B) else D.med x
theorem Sto.start {D : DevS} (h : Calm D) (B : Nat) (f : Nat → Nat) : Sto D D B 0 f :=
  ⟨rfl, h.off, h.fuse, rfl, rfl, rfl, fun z => by rw [if_neg (by omega)]; exact h.buf z⟩
theorem stos_live (D : DevS) (l k m : Nat) (f : Nat → Nat) (hl : l < D.n) (hk : k + m ≤ 8) : ∀ (r i : Nat) (D' : DevS), i + r = m → Sto D D' (8 * l + k) i f → ∃ E, stos l k f r i D' = (0, E) ∧ PutS D E l (8 * l + k) m f
  | 0, i, D', hi, h => by
    obtain rfl : i = m := by omega
    have h1 := live_e (D := D') (t := isLine D' (l : Int)) h.off h.fuse (by unfold isLine; rw [decide_eq_true_eq, h.n]; omega)
    obtain ⟨D2, hD2⟩ : ∃ D2, D2 = flushF (l : Int) D' := ⟨_, rfl⟩
    have o2 : D2.off = false := by rw [hD2]; exact h.off
    have u2 : D2.fuse = 0 := by rw [hD2]; exact h.fuse
    have h2 := live_e (D := D2) (t := true) o2 u2 rfl
    have b2 : ∀ z : Int, D2.buf z = if ((8 * l + k : Nat) : Int) ≤ z ∧ z < ((8 * l + k : Nat) : Int) + i then some (f (z - ((8 * l + k : Nat) : Int)).toNat, true) else none := fun z => by
      rw [hD2]
      show flF D'.buf ((l : Int).toNat) 8 z = _
      rw [Int.toNat_natCast]
      unfold flF
      rw [h.buf z]
      by_cases c : ((8 * l + k : Nat) : Int) ≤ z ∧ z < ((8 * l + k : Nat) : Int) + i
      · rw [if_pos c, if_pos c, if_pos (by omega)]; rfl
      · rw [if_neg c, if_neg c]; split <;> rfl
    have s2 : ∀ x : Nat, fluS D2 x = decide (8 * l + k ≤ x ∧ x < 8 * l + k + i) := fun x => by
      unfold fluS
      rw [b2]
      by_cases c : 8 * l + k ≤ x ∧ x < 8 * l + k + i
      · rw [if_pos (by omega), decide_eq_true c]; rfl
      · rw [if_neg (by omega), decide_eq_false c]; rfl
    refine ⟨fenceF D2, ?_, ?_⟩
    · unfold stos finS
      rw [h1.1, if_pos rfl, h1.2, ← hD2, h2.1, h2.2]
    · refine ⟨by rw [hD2]; exact h.n, ⟨o2, u2, fun z => ?_⟩, by rw [hD2]; exact h.bad, by rw [hD2]; show D'.cnt + 1 + 1 = _; rw [h.cnt], fun x => ?_⟩
      · show perBuf D2 (fluS D2) z = none
        unfold perBuf
        rw [s2, b2]
        by_cases c : ((8 * l + k : Nat) : Int) ≤ z ∧ z < ((8 * l + k : Nat) : Int) + i
        · rw [if_pos ⟨by omega, by rw [decide_eq_true_eq]; omega⟩]
        · rw [if_neg c]; split <;> rfl
      · show perMed D2 (fluS D2) x = _
        unfold perMed
        have hb : D2.bad = D.bad := by rw [hD2]; exact h.bad
        have hm : D2.med = D.med := by rw [hD2]; exact h.med
        rw [s2, b2, hb, hm]
        by_cases c : 8 * l + k ≤ x ∧ x < 8 * l + k + i
        · rw [decide_eq_true c, if_pos (show ((8 * l + k : Nat) : Int) ≤ (x : Int) ∧ (x : Int) < ((8 * l + k : Nat) : Int) + i by omega), show x / 8 = l by omega]
          cases hbl : D.bad l with
          | true => rw [if_neg (by simp), if_neg (by simp)]
          | false =>
            rw [if_pos ⟨rfl, rfl⟩, if_pos ⟨c.1, c.2, rfl⟩]
            show f ((x : Int) - ((8 * l + k : Nat) : Int)).toNat = _
            congr 1
            omega
        · rw [decide_eq_false c, if_neg (by simp), if_neg (fun e => c ⟨e.1, e.2.1⟩)]
  | r + 1, i, D', hi, h => by
    have h1 := live_e (D := D') (t := isWord D' ((8 * l + k + i : Nat) : Int)) h.off h.fuse (by unfold isWord; rw [decide_eq_true_eq, h.n]; omega)
    have hs : Sto D (storeF ((8 * l + k + i : Nat) : Int) (f i) D') (8 * l + k) (i + 1) f := by
      refine ⟨h.n, h.off, h.fuse, h.bad, h.med, by show D'.cnt + 1 = _; rw [h.cnt]; omega, fun z => ?_⟩
      show updZ D'.buf ((8 * l + k + i : Nat) : Int) (some (f i, false)) z = _
      unfold updZ
      by_cases e : z = ((8 * l + k + i : Nat) : Int)
      · subst e
        rw [if_pos rfl, if_pos (by omega)]
        congr 3
        omega
      · rw [if_neg e, h.buf z]
        by_cases c : ((8 * l + k : Nat) : Int) ≤ z ∧ z < ((8 * l + k : Nat) : Int) + i
        · rw [if_pos c, if_pos (by omega)]
        · rw [if_neg c, if_neg (by omega)]
    obtain ⟨E, e1, e2⟩ := stos_live D l k m f hl hk r (i + 1) _ (by omega) hs
    refine ⟨E, ?_, e2⟩
    unfold stos
    rw [h1.1, if_pos rfl, h1.2]
    exact e1
theorem put_calm {D : DevS} {l : Nat} {s : ByteArray} (h : Calm D) (hl : l < D.n) (hs : s.size = 64) : ∃ E, putE D (l : Int) s = (0, E) ∧ PutS D E l (8 * l) 8 (wdL s.data.toList) := by
  obtain ⟨E, e1, e2⟩ := stos_live D l 0 8 (wdL s.data.toList) hl (by omega) 8 0 D (by omega) (.start h _ _)
  refine ⟨E, ?_, e2⟩
  unfold putE
  rw [if_neg (by simp [hs]), if_pos (by unfold isLine; rw [decide_eq_true_eq]; omega), Int.toNat_natCast]
  exact e1
theorem putword_calm {D : DevS} {l k v : Nat} (h : Calm D) (hl : l < D.n) (hk : k < 8) : ∃ E, pwE D (l : Int) (k : Int) v = (0, E) ∧ PutS D E l (8 * l + k) 1 (fun _ => v) := by
  obtain ⟨E, e1, e2⟩ := stos_live D l k 1 (fun _ => v) hl (by omega) 1 0 D (by omega) (.start h _ _)
  refine ⟨E, ?_, e2⟩
  unfold pwE
  rw [if_neg (by omega), if_pos (by unfold isLine; rw [decide_eq_true_eq]; omega), Int.toNat_natCast, Int.toNat_natCast]
  exact e1
theorem calm_load {D : DevS} (h : Calm D) (i : Nat) : loadV D i = D.med i := by unfold loadV; rw [h.buf]
theorem getT_of {D : DevS} {l : Nat} {s : ByteArray} (h : Calm D) (hs : s.size = 64) (hm : ∀ k, k < 8 → D.med (8 * l + k) = wdL s.data.toList k) : (⟨(getT D l).toArray⟩ : ByteArray) = s := by
  have e : getT D l = s.data.toList := by
    unfold getT
    rw [calm_load h, calm_load h, calm_load h, calm_load h, calm_load h, calm_load h, calm_load h, calm_load h]
    have := hm 0 (by omega)
    rw [Nat.add_zero] at this
    rw [this, hm 1 (by omega), hm 2 (by omega), hm 3 (by omega), hm 4 (by omega), hm 5 (by omega), hm 6 (by omega), hm 7 (by omega)]
    exact cat_wdL 8 s.data.toList hs
  rw [e]
theorem took_of {D : DevS} {l : Nat} {s : ByteArray} (hl : l < D.n) (hs : s.size = 64) (hm : ∀ k, k < 8 → D.med (8 * l + k) = wdL s.data.toList k) : tookB D (l : Int) s = true := by
  unfold tookB
  rw [decide_eq_true hs, show isLine D (l : Int) = true by unfold isLine; rw [decide_eq_true_eq]; omega, Int.toNat_natCast, Bool.true_and, Bool.true_and, List.all_eq_true]
  intro k hk
  rw [List.mem_range] at hk
  simpa using hm k hk
theorem took_not {D : DevS} {l k : Nat} {s : ByteArray} (hk : k < 8) (hm : D.med (8 * l + k) ≠ wdL s.data.toList k) : tookB D (l : Int) s = false := by
  unfold tookB
  rw [Int.toNat_natCast, show ((List.range 8).all fun k => D.med (8 * l + k) == wdL s.data.toList k) = false by
    rw [List.all_eq_false]
    exact ⟨k, List.mem_range.2 hk, by simpa using hm⟩]
  simp

/-! ### wakes -/
def abcS : ByteArray := fullS ⟨#[97, 98, 99]⟩
theorem abc_size : abcS.size = 64 := fullS_size _
theorem abc_word : wdL abcS.data.toList 0 ≠ 0 := by decide +kernel
set_option maxRecDepth 20000 in
set_option maxHeartbeats 2000000 in
theorem wakes04 (w : World) : Calls Try.prog 30 #[] w fun e w' => e = .returned (.bool true) ∧ Gr [] w w' := by
  have HF := Lib.hid (fun W => full_any ⟨#[97, 98, 99]⟩ W (by show 3 ≤ _; omega))
  have hml : (64 : Nat) ≤ maxLen := by unfold maxLen; omega
  have HML := Lib.hid hml
  clear hml
  go_enter Try.func30, Try.ntmps30
  go_wp2_with fail
  refine (pmnew_yes 2 _ (by omega) (by omega)).mono ?_
  rintro e w1 ⟨a, rfl, d1, hlo, g1⟩
  have HN := Lib.hid (show ∀ (wa wb : World), Gr [] w wa → Gr a.all wa wb → Gr [] w wb from fun wa wb p q => p.nextN q fun x hx => .inr (hlo x hx))
  have HD := Lib.hid (And.intro d1 g1)
  clear d1 hlo g1
  go_wp2_with fail
  refine (HF.out _).mono ?_
  rintro e w2 ⟨rfl, q2⟩
  have d2 := HD.out.1.gr0 q2
  have g2 := HD.out.2.next0 q2
  obtain ⟨S, hS⟩ : ∃ S, fullS ⟨#[97, 98, 99]⟩ = S := ⟨_, rfl⟩
  have HSZ := Lib.hid (show S.size = 64 by rw [← hS]; exact abc_size)
  have HSW := Lib.hid (show wdL S.data.toList 0 ≠ 0 by rw [← hS]; exact abc_word)
  rw [hS]
  clear q2 HD HF hS
  have hc0 : Calm (newD 2) := ⟨rfl, rfl, fun _ => rfl⟩
  obtain ⟨E1, p1, s1⟩ := put_calm (l := 1) hc0 (by show 1 < 2; omega) HSZ.out
  have HP := Lib.hid (lput_any a (newD 2) ((1 : Nat) : Int) S 0 w2 d2 ⟨Nat.le_refl _, fun l => ⟨Int.le_refl _, Int.le_refl _⟩⟩ (by omega) (by rw [HSZ.out]; exact HML.out))
  rw [p1] at HP
  have HG := Lib.hid g2
  have HS1 := Lib.hid s1
  clear d2 g2 hc0 p1 s1
  go_wp2_with fail
  refine HP.out.mono ?_
  rintro e w3 ⟨rfl, d3, b3, q3⟩
  have g3 := HN.out _ _ HG.out q3
  have m3 : ∀ k, k < 8 → E1.med (8 * 1 + k) = wdL S.data.toList k := fun k hk => by
    rw [HS1.out.med, if_pos ⟨by omega, by omega, rfl⟩]
    congr 1
    omega
  have HT := Lib.hid (took_any a E1 ((1 : Nat) : Int) S w3 d3 (by rw [HSZ.out]; exact HML.out))
  rw [took_of (by rw [HS1.out.n]; show 1 < 2; omega) HSZ.out m3] at HT
  have HD := Lib.hid (And.intro d3 (And.intro b3 g3))
  have HM := Lib.hid m3
  clear d3 b3 q3 g3 HP HG m3
  go_wp2_with fail
  refine HT.out.mono ?_
  rintro e w4 ⟨rfl, q4⟩
  have d4 := HD.out.1.gr0 q4
  have g4 := HD.out.2.2.next0 q4
  have hn1 : E1.n = 2 := HS1.out.n
  have HBk := Lib.hid (break_in a E1 0 w4 d4 (by rw [hn1]; omega))
  have HG := Lib.hid g4
  have HB := Lib.hid HD.out.2.1
  clear d4 g4 q4 HT HD hn1
  go_wp2_with fail
  refine HBk.out.mono ?_
  rintro e w5 ⟨rfl, d5, q5⟩
  have g5 := HN.out _ _ HG.out (q5.mono (cs := a.all) (fun b hb => by simp at hb; subst hb; simp [DevA.all]))
  obtain ⟨E2, hE2⟩ : ∃ E2 : DevS, E2 = { E1 with bad := fun j => if j = 0 then true else E1.bad j } := ⟨_, rfl⟩
  rw [← hE2] at d5
  have n2 : E2.n = 2 := by rw [hE2]; exact HS1.out.n
  have c2 : Calm E2 := by rw [hE2]; exact ⟨HS1.out.calm.off, HS1.out.calm.fuse, HS1.out.calm.buf⟩
  have med2 : E2.med = E1.med := by rw [hE2]
  have bad2 : E2.bad 0 = true := by rw [hE2]; rfl
  have b2 : Bd E2 10 := by rw [hE2]; exact HB.out
  have HGt := Lib.hid (get_yes a E2 1 w5 d5 (by rw [n2]; omega) c2.off)
  rw [getT_of c2 HSZ.out (fun k hk => by rw [med2]; exact HM.out k hk)] at HGt
  have H2 := Lib.hid (And.intro n2 (And.intro c2 (And.intro med2 (And.intro bad2 b2))))
  have HD := Lib.hid (And.intro d5 g5)
  clear d5 q5 g5 n2 c2 med2 bad2 b2 hE2 HG HBk
  go_wp2_with fail
  refine HGt.out.mono ?_
  rintro e w6 ⟨rfl, q6⟩
  have d6 := HD.out.1.gr0 q6
  have g6 := HD.out.2.next0 q6
  obtain ⟨E3, p3, s3⟩ := put_calm (l := 0) H2.out.2.1 (by rw [H2.out.1]; omega) HSZ.out
  have HP := Lib.hid (lput_any a E2 ((0 : Nat) : Int) S 10 w6 d6 H2.out.2.2.2.2 (by omega) (by rw [HSZ.out]; exact HML.out))
  rw [p3] at HP
  have HS3 := Lib.hid s3
  have HG := Lib.hid g6
  clear d6 g6 q6 HD HGt p3 s3
  go_wp2_with fail
  refine HP.out.mono ?_
  rintro e w7 ⟨rfl, d7, _, q7⟩
  have g7 := HN.out _ _ HG.out q7
  have HT := Lib.hid (took_any a E3 ((0 : Nat) : Int) S w7 d7 (by rw [HSZ.out]; exact HML.out))
  rw [took_not (k := 0) (by omega) (by
    rw [HS3.out.med, if_neg (fun e => by rw [H2.out.2.2.2.1] at e; cases e.2.2), H2.out.2.2.1, HS1.out.med, if_neg (by omega)]
    exact fun e => HSW.out e.symm)] at HT
  have HG7 := Lib.hid g7
  clear d7 q7 g7 HP HG
  go_wp2_with fail
  refine HT.out.mono ?_
  rintro e w8 ⟨rfl, q8⟩
  have HG8 := Lib.hid (HG7.out.next0 q8)
  clear q8 HT
  go_wp2_with fail
  go_ret
  exact ⟨rfl, HG8.out⟩

end Go.Proofs.Ytphaaebbofgdnaa
