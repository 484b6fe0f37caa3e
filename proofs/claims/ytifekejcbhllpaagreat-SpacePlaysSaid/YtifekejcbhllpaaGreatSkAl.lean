/-
  SkAl: SpD, SpE, SpF.
-/
import Derived.Test.YtifekejcbhllpaaGreatSkAk
import Derived.Test.YtifekejcbhllpaaGreatSkAi
import Derived.Deep.RegionHeld3
import Derived.Deep.CutBlock

set_option linter.unusedVariables false

/-
  Layer 5: replace.
-/
namespace Go.Proofs.YtifekejcbhllpaaGreat
open Go.RowKit

/-- What comes of an attempt: has it taken, the error, the device, the bank. -/
structure RepR where
  t : Bool
  e : Int
  D : DevS
  B : BkS
def markN (D : DevS) (z : Int) (i : Int) (s : ByteArray) : Nat := if tookB D z s then i.toNat + 1 else 65535
def replaceS (p : PlanZ) (i : Int) (s : ByteArray) (D : DevS) (B : BkS) : RepR :=
  if (putE D (spareP p B.used) s).1 ≠ 0 then ⟨false, (putE D (spareP p B.used) s).1, (putE D (spareP p B.used) s).2, B⟩
  else if (pwE (putE D (spareP p B.used) s).2 (p.a + (B.used : Int) / 8) ((B.used : Int) % 8) (guardN (markN (putE D (spareP p B.used) s).2 (spareP p B.used) i s))).1 ≠ 0 then
    ⟨false, (pwE (putE D (spareP p B.used) s).2 (p.a + (B.used : Int) / 8) ((B.used : Int) % 8) (guardN (markN (putE D (spareP p B.used) s).2 (spareP p B.used) i s))).1, (pwE (putE D (spareP p B.used) s).2 (p.a + (B.used : Int) / 8) ((B.used : Int) % 8) (guardN (markN (putE D (spareP p B.used) s).2 (spareP p B.used) i s))).2, B⟩
  else ⟨tookB (putE D (spareP p B.used) s).2 (spareP p B.used) s, 0, (pwE (putE D (spareP p B.used) s).2 (p.a + (B.used : Int) / 8) ((B.used : Int) % 8) (guardN (markN (putE D (spareP p B.used) s).2 (spareP p B.used) i s))).2, ⟨B.used + 1, if tookB (putE D (spareP p B.used) s).2 (spareP p B.used) s then updZ B.wh i (some B.used) else B.wh⟩⟩
/-- What replace leaves. -/
def RepPost (w : World) (q : BkA) (a : DevA) (p : PlanZ) (m c : Nat) (R : RepR) (e : Ending) (w' : World) : Prop :=
  e = .returned (.tuple #[.bool R.t, .int .i64 R.e]) ∧ DevIs w' a R.D ∧ Bd R.D (c + 20) ∧ BkIs w' q a p R.B (m + 1) ∧ Gr (q.all ++ a.all) w w'
section
variable {w : World} {q : BkA} {a : DevA} {p : PlanZ} {B : BkS} {m c : Nat} {D : DevS}
theorem BkIs.more (h : BkIs w q a p B m) : BkIs w q a p B (m + 1) := ⟨h.head, h.map.mono (Nat.le_succ m), h.ok, h.us, h.rg, h.ne, h.sep⟩
theorem bk_used (h : BkIs w q a p B m) (hu : (B.used : Int) < p.s) : BkIs (w.setCell ⟨q.b, 4, none⟩ (.int .i64 ((B.used : Int) + 1))) q a p ⟨B.used + 1, B.wh⟩ m ∧ Gr [q.b] w (w.setCell ⟨q.b, 4, none⟩ (.int .i64 ((B.used : Int) + 1))) := by
  have g : Gr [q.b] w (w.setCell ⟨q.b, 4, none⟩ (.int .i64 ((B.used : Int) + 1))) := (Gr.refl [q.b] w).setCell (p := ⟨q.b, 4, none⟩) (.inl (by simp)) _
  refine ⟨⟨?_, h.map.gr g (by simp; exact h.ne.symm), h.ok, by simp only; omega, h.rg, h.ne, h.sep⟩, g⟩
  have := h.head.set 4 (.int .i64 ((B.used : Int) + 1))
  simpa using this
theorem bk_where {w' : World} {k : Nat} {i : Int} (h : BkIs w q a p B m) (hM : MapZ niE 3 w' q.bm (m + 1) (updZ B.wh i (some k))) (g : Gr [q.bm] w w') (hk : (k : Int) < p.s) : BkIs w' q a p ⟨B.used, updZ B.wh i (some k)⟩ (m + 1) := by
  refine ⟨h.head.gr g (by simp; exact h.ne), hM, h.ok, h.us, fun x j hj => ?_, h.ne, h.sep⟩
  simp only [updZ] at hj
  split at hj
  · injection hj with hj; rw [← hj]; exact hk
  · exact h.rg x j hj
set_option maxRecDepth 100000 in
set_option maxHeartbeats 8000000 in
theorem replace_any (i : Int) (s : ByteArray) (h : BkIs w q a p B m) (hd : DevIs w a D) (hb : Bd D c) (hc : c < 900000000) (hs : s.size ≤ maxLen) (hi : inP p i) (hu : (B.used : Int) < p.s) (hm : m < 100000000) :
    Calls Tryz.prog 172 #[.pointer (some ⟨q.b, 0, none⟩), .int .i64 i, .string s] w (RepPost w q a p m c (replaceS p i s D B)) := by
  obtain ⟨h1, h2, h3, h4, h5, h6⟩ := (okZ_iff _).1 h.ok
  obtain ⟨i0, i1⟩ : 0 ≤ i ∧ i < p.l := hi
  have c0 := h.c0
  have c1 := h.c1
  have c2 := h.c2
  have c3 := h.c3
  have c4 := h.c4
  have H := Lib.hid h
  have HD := Lib.hid (And.intro hd hb)
  obtain ⟨k, hk⟩ : ∃ k, k = B.used := ⟨_, rfl⟩
  have hu' : (k : Int) < p.s := by omega
  rw [← hk] at c4
  have HS := Lib.hid (show Calls Tryz.prog 104 #[.agg #[.int .i64 p.a, .int .i64 p.l, .int .i64 p.s], .int .i64 (k : Int)] w _ from spareat_any p h.ok (k : Int) (by omega) (by omega) w)
  obtain ⟨z, hz⟩ : ∃ z, z = spareP p (k : Int) := ⟨_, rfl⟩
  have hz' : p.a + tabZ p + p.l + (k : Int) = z := by rw [hz]; rfl
  rw [hz'] at HS
  have HK := Lib.hid (And.intro hk hz)
  have HSS := Lib.hid hs
  clear h hd hb hk hz hz' hu hs
  go_enter Tryz.func172, Tryz.ntmps172
  go_wp2_with fail
  refine HS.out.mono ?_
  rintro e w1 ⟨rfl, hb1⟩
  have g1 : Gr [] w w1 := Gr.ofBelow hb1
  have HG1 := Lib.hid g1
  have c0 := (H.out.gr0 g1).c0
  clear g1 hb1
  go_wp2_with fail
  refine (lput_any a D z s c w1 (HD.out.1.gr0 HG1.out) HD.out.2 (by omega) HSS.out).mono ?_
  rintro e w2 ⟨rfl, hd2, hb2, g2⟩
  have HD2 := Lib.hid (And.intro hd2 (And.intro hb2 (HG1.out.of0.trans g2)))
  have H2 := Lib.hid ((H.out.gr0 HG1.out).grD g2)
  clear hd2 hb2 g2
  have HR0 := Lib.hid (show replaceS p i s D B = replaceS p i s D B from rfl)
  obtain ⟨e1, he1⟩ : ∃ e1, e1 = (putE D z s).1 := ⟨_, rfl⟩
  obtain ⟨D1, hD1⟩ : ∃ D1, D1 = (putE D z s).2 := ⟨_, rfl⟩
  rw [← he1]
  rw [← hD1] at HD2
  have HE := Lib.hid (And.intro he1 hD1)
  clear he1 hD1
  by_cases hz0 : e1 = 0
  · subst hz0
    obtain ⟨iN, rfl⟩ : ∃ iN : Nat, i = (iN : Int) := ⟨i.toNat, by omega⟩
    have hwf : WfZ (iN : Int) := wfZ (by omega) (by omega)
    have hi9 : iN < 1026 := by omega
    have c0 := H2.out.c0
    have x1 : (k : Int).tdiv 8 = (k : Int) / 8 := Int.tdiv_eq_ediv_of_nonneg (by omega)
    have x2 : (k : Int).tmod 8 = (k : Int) % 8 := Int.tmod_eq_emod_of_nonneg (by omega)
    have x3 : IntKind.i64.wrap ((k : Int) / 8) = (k : Int) / 8 := IntWalk.i64_in _ (by omega)
    have x4 : IntKind.i64.wrap (p.a + (k : Int) / 8) = p.a + (k : Int) / 8 := IntWalk.i64_in _ (by omega)
    have x5 : IntKind.i64.wrap ((k : Int) % 8) = (k : Int) % 8 := IntWalk.i64_in _ (by omega)
    go_wp2_with fail
    refine (took_any a D1 z s w2 HD2.out.1 HSS.out).mono ?_
    rintro e w4 ⟨rfl, g4⟩
    have HD4 := Lib.hid (And.intro (HD2.out.1.gr0 g4) (And.intro HD2.out.2.1 (HD2.out.2.2.next0 g4)))
    have H4 := Lib.hid (H2.out.gr0 g4)
    have c0 := H4.out.c0
    have c1 := H4.out.c1
    clear g4
    cases htk : tookB D1 z s with
    | true =>
      have HGd := Lib.hid (show ∀ W, Calls Tryz.prog 125 #[.int .u64 ((iN : Int) + 1)] W fun e w' => e = .returned (.int .u64 (guardN (iN + 1) : Nat)) ∧ Below W.heap.size W w' from fun W => guard_any (iN + 1) W (by omega))
      have HMK := Lib.hid (show markN D1 z (iN : Int) s = (iN + 1) by unfold markN; rw [htk]; simp)
      obtain ⟨G, hG⟩ : ∃ G, G = guardN (iN + 1) := ⟨_, rfl⟩
      rw [← hG] at HGd
      have hGlt : G < 18446744073709551616 := by rw [hG]; exact guardN_lt _ (by omega)
      have HGG := Lib.hid hG
      have HTK := Lib.hid htk
      clear htk hG
      go_wp2_with fail
      have HX0 := Lib.hid (And.intro (HD4.out.1.gr0 (Gr.refl [] w4).drew) (H4.out.gr0 (Gr.refl [] w4).drew))
      go_region_held3 (fun w' : World => w'.cell? ⟨q.b, 0, none⟩ = some (.pointer (some ⟨a.bd, 0, none⟩)) ∧ w'.cell? ⟨q.b, 1, none⟩ = some (.int .i64 p.a)) (first | assumption | go_keep) ((first
        | (go_at_call 145; refine (putword_any a D1 (p.a + (k : Int) / 8) ((k : Int) % 8) G (c + 10) w5 HX5.out.1 HD4.out.2.1 (by omega) hGlt).mono ?_; rintro e w6 ⟨rfl, hd6, hb6, g6⟩; have s6a := (HX5.out.2.1.grD g6).c0; have s6b := (HX5.out.2.1.grD g6).c1; have HX6 := Lib.hid (And.intro hd6 (And.intro hb6 (And.intro (HX5.out.2.1.grD g6) (HX5.out.2.2.trans g6)))); clear hd6 hb6 g6)
        | (go_at_call 125; refine (HGd.out _).mono ?_; rintro e w5 ⟨rfl, hb5⟩; have g5 : Gr [] _ w5 := Gr.ofBelow (cs := []) hb5; have s5a := (HX0.out.2.gr0 g5).c0; have s5b := (HX0.out.2.gr0 g5).c1; have HX5 := Lib.hid (And.intro (HX0.out.1.gr0 g5) (And.intro (HX0.out.2.gr0 g5) ((HD4.out.2.2.drew).next0 g5))); clear g5 hb5)))
      obtain ⟨e2, he2⟩ : ∃ e2, e2 = (pwE D1 (p.a + (k : Int) / 8) ((k : Int) % 8) G).1 := ⟨_, rfl⟩
      obtain ⟨D2, hD2⟩ : ∃ D2, D2 = (pwE D1 (p.a + (k : Int) / 8) ((k : Int) % 8) G).2 := ⟨_, rfl⟩
      rw [← hD2] at HX6
      rw [← he2]
      have HE2 := Lib.hid (And.intro he2 hD2)
      clear he2 hD2
      by_cases hz2 : e2 = 0
      · subst hz2
        have HR := Lib.hid (show replaceS p (iN : Int) s D B = ⟨true, 0, D2, ⟨B.used + 1, updZ B.wh (iN : Int) (some k)⟩⟩ by
          unfold replaceS
          rw [← HK.out.1, ← HK.out.2, ← HE.out.1, ← HE.out.2, HMK.out, ← HGG.out, ← HE2.out.1, ← HE2.out.2, HTK.out]
          simp [HK.out.1])
        have HB6 := HX6.out.2.2.1
        have d4 := HB6.c4
        rw [← HK.out.1] at d4
        have d4f := HB6.head.frozen 4
        have hku : (B.used : Int) < p.s := by rw [← HK.out.1]; exact hu'
        obtain ⟨hb7, g7⟩ := bk_used HB6 hku
        have HB7 := Lib.hid (And.intro hb7 g7)
        obtain ⟨w8, hput, hM8, g8, hz8⟩ := hb7.map.put_runN (show m < maxLen by unfold maxLen; omega) hwf k
        have HB8 := Lib.hid (And.intro (bk_where hb7 hM8 g8 hu') g8)
        rw [← HK.out.1] at hput
        have d5 : (w6.setCell ⟨q.b, 4, none⟩ (.int .i64 ((k : Int) + 1))).cell? ⟨q.b, 5, none⟩ = some (.map (some q.bm)) := by rw [HK.out.1]; exact hb7.c5
        clear HB6 hb7 g7 hM8 g8 hz8 hku
        go_wp2_with fail
        go_ret2
        rw [HR.out]
        refine ⟨rfl, (HX6.out.1.gr HB7.out.2 ?_).gr HB8.out.2 ?_, HX6.out.2.1.mono (by omega), HB8.out.1, ?_⟩
        · intro b hb hc; simp at hc; subst hc; exact H.out.sep _ (by simp [BkA.all]) hb
        · intro b hb hc; simp at hc; subst hc; exact H.out.sep _ (by simp [BkA.all]) hb
        · exact ((HX6.out.2.2.2.mono (fun b hb => by simp [hb])).trans (HB7.out.2.mono (fun b hb => by simp at hb; simp [BkA.all, hb]))).trans (HB8.out.2.mono (fun b hb => by simp at hb; simp [BkA.all, hb]))
      · have b1 : (e2 != 0) = true := by simpa using hz2
        have HR := Lib.hid (show replaceS p (iN : Int) s D B = ⟨false, e2, D2, B⟩ by
          unfold replaceS
          rw [← HK.out.1, ← HK.out.2, ← HE.out.1, ← HE.out.2, HMK.out, ← HGG.out, ← HE2.out.1, ← HE2.out.2, if_neg (by simp), if_pos hz2])
        clear hz2
        go_wp2_with fail
        go_ret2
        rw [HR.out]
        exact ⟨rfl, HX6.out.1, HX6.out.2.1.mono (by omega), HX6.out.2.2.1.more, HX6.out.2.2.2.mono (fun b hb => by simp [hb])⟩
    | false =>
      have HGd := Lib.hid (show ∀ W, Calls Tryz.prog 125 #[.int .u64 65535] W fun e w' => e = .returned (.int .u64 (guardN 65535 : Nat)) ∧ Below W.heap.size W w' from fun W => guard_any 65535 W (by omega))
      have HMK := Lib.hid (show markN D1 z (iN : Int) s = 65535 by unfold markN; rw [htk]; simp)
      obtain ⟨G, hG⟩ : ∃ G, G = guardN 65535 := ⟨_, rfl⟩
      rw [← hG] at HGd
      have hGlt : G < 18446744073709551616 := by rw [hG]; exact guardN_lt _ (by omega)
      have HGG := Lib.hid hG
      have HTK := Lib.hid htk
      clear htk hG
      go_wp2_with fail
      have HX0 := Lib.hid (And.intro (HD4.out.1.gr0 (Gr.refl [] w4).drew) (H4.out.gr0 (Gr.refl [] w4).drew))
      go_region_held3 (fun w' : World => w'.cell? ⟨q.b, 0, none⟩ = some (.pointer (some ⟨a.bd, 0, none⟩)) ∧ w'.cell? ⟨q.b, 1, none⟩ = some (.int .i64 p.a)) (first | assumption | go_keep) ((first
        | (go_at_call 145; refine (putword_any a D1 (p.a + (k : Int) / 8) ((k : Int) % 8) G (c + 10) w5 HX5.out.1 HD4.out.2.1 (by omega) hGlt).mono ?_; rintro e w6 ⟨rfl, hd6, hb6, g6⟩; have s6a := (HX5.out.2.1.grD g6).c0; have s6b := (HX5.out.2.1.grD g6).c1; have HX6 := Lib.hid (And.intro hd6 (And.intro hb6 (And.intro (HX5.out.2.1.grD g6) (HX5.out.2.2.trans g6)))); clear hd6 hb6 g6)
        | (go_at_call 125; refine (HGd.out _).mono ?_; rintro e w5 ⟨rfl, hb5⟩; have g5 : Gr [] _ w5 := Gr.ofBelow (cs := []) hb5; have s5a := (HX0.out.2.gr0 g5).c0; have s5b := (HX0.out.2.gr0 g5).c1; have HX5 := Lib.hid (And.intro (HX0.out.1.gr0 g5) (And.intro (HX0.out.2.gr0 g5) ((HD4.out.2.2.drew).next0 g5))); clear g5 hb5)))
      obtain ⟨e2, he2⟩ : ∃ e2, e2 = (pwE D1 (p.a + (k : Int) / 8) ((k : Int) % 8) G).1 := ⟨_, rfl⟩
      obtain ⟨D2, hD2⟩ : ∃ D2, D2 = (pwE D1 (p.a + (k : Int) / 8) ((k : Int) % 8) G).2 := ⟨_, rfl⟩
      rw [← hD2] at HX6
      rw [← he2]
      have HE2 := Lib.hid (And.intro he2 hD2)
      clear he2 hD2
      by_cases hz2 : e2 = 0
      · subst hz2
        have HR := Lib.hid (show replaceS p (iN : Int) s D B = ⟨false, 0, D2, ⟨B.used + 1, B.wh⟩⟩ by
          unfold replaceS
          rw [← HK.out.1, ← HK.out.2, ← HE.out.1, ← HE.out.2, HMK.out, ← HGG.out, ← HE2.out.1, ← HE2.out.2, HTK.out]
          simp [HK.out.1])
        have HB6 := HX6.out.2.2.1
        have d4 := HB6.c4
        rw [← HK.out.1] at d4
        have d4f := HB6.head.frozen 4
        have hku : (B.used : Int) < p.s := by rw [← HK.out.1]; exact hu'
        obtain ⟨hb7, g7⟩ := bk_used HB6 hku
        have HB7 := Lib.hid (And.intro hb7 g7)
        clear HB6 hb7 g7 hku
        go_wp2_with fail
        go_ret2
        rw [HR.out]
        have e9 : (k : Int) + 1 = (B.used : Int) + 1 := by rw [HK.out.1]
        rw [e9]
        refine ⟨rfl, HX6.out.1.gr HB7.out.2 ?_, HX6.out.2.1.mono (by omega), HB7.out.1.more, ?_⟩
        · intro b hb hc; simp at hc; subst hc; exact H.out.sep _ (by simp [BkA.all]) hb
        · exact (HX6.out.2.2.2.mono (fun b hb => by simp [hb])).trans (HB7.out.2.mono (fun b hb => by simp at hb; simp [BkA.all, hb]))
      · have b1 : (e2 != 0) = true := by simpa using hz2
        have HR := Lib.hid (show replaceS p (iN : Int) s D B = ⟨false, e2, D2, B⟩ by
          unfold replaceS
          rw [← HK.out.1, ← HK.out.2, ← HE.out.1, ← HE.out.2, HMK.out, ← HGG.out, ← HE2.out.1, ← HE2.out.2, if_neg (by simp), if_pos hz2])
        clear hz2
        go_wp2_with fail
        go_ret2
        rw [HR.out]
        exact ⟨rfl, HX6.out.1, HX6.out.2.1.mono (by omega), HX6.out.2.2.1.more, HX6.out.2.2.2.mono (fun b hb => by simp [hb])⟩
  · have b1 : (e1 != 0) = true := by simpa using hz0
    have HR := Lib.hid (show replaceS p i s D B = ⟨false, e1, D1, B⟩ by
      unfold replaceS
      rw [← HK.out.1, ← HK.out.2, ← HE.out.1, ← HE.out.2, if_pos hz0])
    clear hz0
    go_wp2_with fail
    go_ret2
    rw [HR.out]
    exact ⟨rfl, HD2.out.1, HD2.out.2.1.mono (by omega), H2.out.more, HD2.out.2.2.mono (fun b hb => by simp [hb])⟩
end
end Go.Proofs.YtifekejcbhllpaaGreat

/-
  Layer 5: ensure, Write.
-/
namespace Go.Proofs.YtifekejcbhllpaaGreat
open Go.RowKit

def ensS (p : PlanZ) (i : Int) (s : ByteArray) : Nat → DevS → BkS → Int × DevS × BkS
  | 0, D, B => (10, D, B)
  | n + 1, D, B => if (replaceS p i s D B).t = true ∨ (replaceS p i s D B).e ≠ 0 then ((replaceS p i s D B).e, (replaceS p i s D B).D, (replaceS p i s D B).B) else ensS p i s n (replaceS p i s D B).D (replaceS p i s D B).B
def ensureS (p : PlanZ) (i z : Int) (s : ByteArray) (D : DevS) (B : BkS) : Int × DevS × BkS := if tookB D z s then (0, D, B) else ensS p i s (p.s - B.used).toNat D B
def EnsPost (w : World) (q : BkA) (a : DevA) (p : PlanZ) (m c : Nat) (X : Int × DevS × BkS) (e : Ending) (w' : World) : Prop :=
  e = .returned (.int .i64 X.1) ∧ DevIs w' a X.2.1 ∧ Bd X.2.1 (c + 1300) ∧ BkIs w' q a p X.2.2 (m + 64) ∧ Gr (q.all ++ a.all) w w'
section
variable {w : World} {q : BkA} {a : DevA} {p : PlanZ} {B : BkS} {m c : Nat} {D : DevS}
theorem BkIs.moreN (h : BkIs w q a p B m) (k : Nat) (hk : m ≤ k) : BkIs w q a p B k := ⟨h.head, h.map.mono hk, h.ok, h.us, h.rg, h.ne, h.sep⟩
theorem rep_used (p : PlanZ) (i : Int) (s : ByteArray) (D : DevS) (B : BkS) (he : (replaceS p i s D B).e = 0) : (replaceS p i s D B).B.used = B.used + 1 := by
  unfold replaceS at he ⊢
  split
  · rename_i h
    rw [if_pos h] at he
    exact absurd he h
  · rename_i h
    rw [if_neg h] at he
    split
    · rename_i h2
      rw [if_pos h2] at he
      exact absurd he h2
    · rfl
set_option maxRecDepth 100000 in
set_option maxHeartbeats 8000000 in
theorem ensure_any (i z : Int) (s : ByteArray) (h : BkIs w q a p B m) (hd : DevIs w a D) (hb : Bd D c) (hc : c < 800000000) (hs : s.size ≤ maxLen) (hi : inP p i) (hm : m < 90000000) :
    Calls Tryz.prog 146 #[.pointer (some ⟨q.b, 0, none⟩), .int .i64 i, .int .i64 z, .string s] w (EnsPost w q a p m c (ensureS p i z s D B)) := by
  have c0 := h.c0
  have H := Lib.hid (And.intro h (And.intro hd hb))
  have HSS := Lib.hid (And.intro hs hi)
  have HT := Lib.hid (took_any a D z s w hd hs)
  cases htk : tookB D z s with
  | true =>
    rw [htk] at HT
    have HR := Lib.hid (show ensureS p i z s D B = (0, D, B) by unfold ensureS; rw [if_pos htk])
    clear h hd hb hs hi htk
    go_enter Tryz.func146, Tryz.ntmps146
    go_wp2_with fail
    refine HT.out.mono ?_
    rintro e w1 ⟨rfl, g1⟩
    have HG := Lib.hid g1
    clear g1
    go_wp2_with fail
    go_ret
    rw [HR.out]
    exact ⟨rfl, H.out.2.1.gr0 HG.out, H.out.2.2.mono (by omega), (H.out.1.gr0 HG.out).moreN _ (by omega), HG.out.of0⟩
  | false =>
    rw [htk] at HT
    obtain ⟨L, hL⟩ : ∃ L : Nat, p.s - (B.used : Int) = (L : Int) := ⟨(p.s - (B.used : Int)).toNat, by have := h.us; omega⟩
    have hL64 : L ≤ 64 := by have := ((okZ_iff _).1 h.ok).2.2.2.2.2; omega
    have HR := Lib.hid (show ensureS p i z s D B = ensS p i s L D B by unfold ensureS; rw [htk, hL]; simp)
    have HLs := Lib.hid hL
    have HLF := Lib.hid (fun W (hW : BkIs W q a p B m) => left_at hW)
    rw [hL] at HLF
    clear h hd hb hs hi htk hL
    go_enter Tryz.func146, Tryz.ntmps146
    go_wp2_with fail
    refine HT.out.mono ?_
    rintro e w1 ⟨rfl, g1⟩
    have HG := Lib.hid g1
    clear g1
    go_wp2_with fail
    refine (HLF.out _ (H.out.1.gr0 HG.out)).mono ?_
    rintro e w2 ⟨rfl, g2⟩
    have HG2 := Lib.hid (HG.out.next0 g2)
    clear g2
    go_wp2_with fail
    go_loopw [20] (fun k wr => ∃ (j : Nat) (D' : DevS) (B' : BkS), j ≤ L ∧ k = .int .i64 j ∧ DevIs wr a D' ∧ Bd D' (c + 20 * j) ∧ BkIs wr q a p B' (m + j) ∧ B'.used = B.used + j ∧ ensS p i s (L - j) D' B' = ensS p i s L D B ∧ Gr (q.all ++ a.all) w wr) (fun k _ => L - (intOf k).toNat)
    case atStart => exact ⟨0, D, B, by omega, rfl, H.out.2.1.gr0 HG2.out, H.out.2.2, H.out.1.gr0 HG2.out, rfl, rfl, HG2.out.of0⟩
    case round =>
      obtain ⟨j, D', B', hj, rfl, hd', hb', hk', hu', he', g'⟩ := hrel
      have HH := Lib.hid (And.intro hd' (And.intro hb' (And.intro hk' (And.intro hu' (And.intro he' g')))))
      clear hd' hb' hk' hu' he' g'
      by_cases hjL : j < L
      · have ij : (j : Int) < (L : Int) := by omega
        have HRP := Lib.hid (replace_any i s HH.out.2.2.1 HH.out.1 HH.out.2.1 (by omega) HSS.out.1 HSS.out.2 (by have := HLs.out; have := HH.out.2.2.2.1; omega) (by omega))
        have HE := Lib.hid (show ensS p i s (L - j) D' B' = if (replaceS p i s D' B').t = true ∨ (replaceS p i s D' B').e ≠ 0 then ((replaceS p i s D' B').e, (replaceS p i s D' B').D, (replaceS p i s D' B').B) else ensS p i s (L - (j + 1)) (replaceS p i s D' B').D (replaceS p i s D' B').B by
          rw [show L - j = (L - (j + 1)) + 1 by omega, ensS])
        have HU := Lib.hid (rep_used p i s D' B')
        generalize replaceS p i s D' B' = R at *
        obtain ⟨Rt, Re, RD, RB⟩ := R
        go_wp2_with fail
        refine HRP.out.mono ?_
        rintro e w3 ⟨rfl, hd3, hb3, hk3, g3⟩
        have H3 := Lib.hid (And.intro hd3 (And.intro hb3 (And.intro hk3 (HH.out.2.2.2.2.2.trans g3))))
        clear hd3 hb3 hk3 g3
        simp only
        cases Rt with
        | true =>
          have HF := Lib.hid (show ensS p i s L D B = (Re, RD, RB) by rw [← HH.out.2.2.2.2.1, HE.out, if_pos (.inl rfl)])
          go_wp2_with fail
          go_ret
          rw [HR.out, HF.out]
          exact ⟨rfl, H3.out.1, H3.out.2.1.mono (by omega), H3.out.2.2.1.moreN _ (by omega), H3.out.2.2.2⟩
        | false =>
          by_cases hre : Re = 0
          · subst hre
            have HF := Lib.hid (show ensS p i s L D B = ensS p i s (L - (j + 1)) RD RB by rw [← HH.out.2.2.2.2.1, HE.out, if_neg (by simp)])
            go_wp2_with fail
            go_roundw
            case rel => exact ⟨j + 1, RD, RB, by omega, by go_num, H3.out.1, H3.out.2.1.mono (by omega), H3.out.2.2.1, by have := HU.out rfl; rw [this, HH.out.2.2.2.1]; omega, HF.out.symm, H3.out.2.2.2⟩
            case measure => simp [intOf]; omega
          · have b1 : (Re != 0) = true := by simpa using hre
            have b2 : (Re == 0) = false := by simpa using hre
            have HF := Lib.hid (show ensS p i s L D B = (Re, RD, RB) by rw [← HH.out.2.2.2.2.1, HE.out, if_pos (.inr hre)])
            clear hre
            go_wp2_with fail
            go_ret
            rw [HR.out, HF.out]
            exact ⟨rfl, H3.out.1, H3.out.2.1.mono (by omega), H3.out.2.2.1.moreN _ (by omega), H3.out.2.2.2⟩
      · obtain rfl : j = L := by omega
        have ij : ¬ ((j : Int) < (j : Int)) := by omega
        have HF := Lib.hid (show ensS p i s j D B = (10, D', B') by rw [← HH.out.2.2.2.2.1, Nat.sub_self]; rfl)
        go_wp2_with fail
        go_ret
        rw [HR.out, HF.out]
        exact ⟨rfl, HH.out.1, HH.out.2.1.mono (by omega), HH.out.2.2.1.moreN _ (by omega), HH.out.2.2.2.2.2⟩
def writeS (p : PlanZ) (i : Int) (s : ByteArray) (D : DevS) (B : BkS) : Int × DevS × BkS :=
  if s.size ≠ 64 then (2, D, B) else if inP p i then (if (putE D (placeP p B i) s).1 ≠ 0 then ((putE D (placeP p B i) s).1, (putE D (placeP p B i) s).2, B) else ensureS p i (placeP p B i) s (putE D (placeP p B i) s).2 B) else (3, D, B)
/-- What a write leaves. -/
def WrPost (w : World) (q : BkA) (a : DevA) (p : PlanZ) (m c : Nat) (X : Int × DevS × BkS) (e : Ending) (w' : World) : Prop :=
  e = .returned (.int .i64 X.1) ∧ DevIs w' a X.2.1 ∧ Bd X.2.1 (c + 1400) ∧ BkIs w' q a p X.2.2 (m + 64) ∧ Gr (q.all ++ a.all) w w'
set_option maxRecDepth 100000 in
set_option maxHeartbeats 8000000 in
theorem bwrite_any (i : Int) (s : ByteArray) (h : BkIs w q a p B m) (hd : DevIs w a D) (hb : Bd D c) (hc : c < 700000000) (hs : s.size ≤ maxLen) (hm : m < 90000000) :
    Calls Tryz.prog 133 #[.pointer (some ⟨q.b, 0, none⟩), .int .i64 i, .string s] w (WrPost w q a p m c (writeS p i s D B)) := by
  have c0 := h.c0
  have H := Lib.hid (And.intro h (And.intro hd hb))
  have HSS := Lib.hid hs
  unfold maxLen at hs
  by_cases h64 : s.size = 64
  · have b0 : ((s.size : Int) != 64) = false := by rw [h64]; rfl
    have H64 := Lib.hid h64
    by_cases hi : inP p i
    · have HW := Lib.hid (where_in i h hi)
      obtain ⟨z, hz⟩ : ∃ z, z = placeP p B i := ⟨_, rfl⟩
      rw [← hz] at HW
      have HI := Lib.hid hi
      have HX := Lib.hid (show writeS p i s D B = if (putE D z s).1 ≠ 0 then ((putE D z s).1, (putE D z s).2, B) else ensureS p i z s (putE D z s).2 B by
        unfold writeS; rw [if_neg (by simp [h64]), if_pos hi, hz])
      have HPU := Lib.hid (fun W (hW : DevIs W a D) => lput_any a D z s c W hW hb (by omega) HSS.out)
      clear h hd hb hi hz h64
      go_enter Tryz.func133, Tryz.ntmps133
      go_wp2_with fail
      refine HW.out.mono ?_
      rintro e w1 ⟨rfl, g1⟩
      have HG1 := Lib.hid g1
      have c0 := (H.out.1.gr0 g1).c0
      clear g1
      go_wp2_with fail
      refine (HPU.out _ (H.out.2.1.gr0 HG1.out)).mono ?_
      rintro e w2 ⟨rfl, hd2, hb2, g2⟩
      have H2 := Lib.hid (And.intro hd2 (And.intro hb2 (And.intro ((H.out.1.gr0 HG1.out).grD g2) (HG1.out.of0.trans g2))))
      clear hd2 hb2 g2
      obtain ⟨e1, he1⟩ : ∃ e1, e1 = (putE D z s).1 := ⟨_, rfl⟩
      obtain ⟨D1, hD1⟩ : ∃ D1, D1 = (putE D z s).2 := ⟨_, rfl⟩
      rw [← he1] at HX ⊢
      rw [← hD1] at H2 HX
      clear he1 hD1
      by_cases hz0 : e1 = 0
      · subst hz0
        rw [if_neg (by simp)] at HX
        go_wp2_with fail
        refine (ensure_any i z s H2.out.2.2.1 H2.out.1 H2.out.2.1 (by omega) HSS.out HI.out hm).mono ?_
        rw [← HX.out]
        rintro e w3 ⟨rfl, hd3, hb3, hk3, g3⟩
        have H3 := Lib.hid (And.intro hd3 (And.intro hb3 (And.intro hk3 ((H2.out.2.2.2.mono (fun b hb => by simp [hb])).trans g3))))
        clear hd3 hb3 hk3 g3
        go_wp2_with fail
        go_ret
        exact ⟨rfl, H3.out.1, H3.out.2.1.mono (by omega), H3.out.2.2.1, H3.out.2.2.2⟩
      · have b1 : (e1 != 0) = true := by simpa using hz0
        rw [if_pos hz0] at HX
        clear hz0
        go_wp2_with fail
        go_ret
        rw [HX.out]
        exact ⟨rfl, H2.out.1, H2.out.2.1.mono (by omega), H2.out.2.2.1.moreN _ (by omega), H2.out.2.2.2.mono (fun b hb => by simp [hb])⟩
    · have HW := Lib.hid (where_out i h hi)
      have HX := Lib.hid (show writeS p i s D B = (3, D, B) by unfold writeS; rw [if_neg (by simp [h64]), if_neg hi])
      clear h hd hb hi h64
      go_enter Tryz.func133, Tryz.ntmps133
      go_wp2_with fail
      refine HW.out.mono ?_
      rintro e w1 ⟨rfl, hw⟩
      rw [hw]
      go_wp2_with fail
      go_ret
      rw [HX.out]
      exact ⟨rfl, H.out.2.1, H.out.2.2.mono (by omega), H.out.1.moreN _ (by omega), Gr.refl _ _⟩
  · have b0 : ((s.size : Int) != 64) = true := by rw [bne_iff_ne]; omega
    have HX := Lib.hid (show writeS p i s D B = (2, D, B) by unfold writeS; rw [if_pos h64])
    clear h hd hb h64
    go_enter Tryz.func133, Tryz.ntmps133
    go_wp2_with fail
    go_ret
    rw [HX.out]
    exact ⟨rfl, H.out.2.1, H.out.2.2.mono (by omega), H.out.1.moreN _ (by omega), Gr.refl _ _⟩
end
end Go.Proofs.YtifekejcbhllpaaGreat

/-
  Layer 5: WriteWord.
-/
namespace Go.Proofs.YtifekejcbhllpaaGreat
open Go.RowKit

/-- The words of a line, one of them another. -/
def updF (F : Nat → Nat) (k v : Nat) : Nat → Nat := fun j => if j = k then v else F j
def rowU (F : Nat → Nat) : Array Value := #[.int .u64 (F 0 : Int), .int .u64 (F 1 : Int), .int .u64 (F 2 : Int), .int .u64 (F 3 : Int), .int .u64 (F 4 : Int), .int .u64 (F 5 : Int), .int .u64 (F 6 : Int), .int .u64 (F 7 : Int)]
theorem lt8 {k : Nat} (h : k < 8) : k = 0 ∨ k = 1 ∨ k = 2 ∨ k = 3 ∨ k = 4 ∨ k = 5 ∨ k = 6 ∨ k = 7 := by omega
theorem rowU_get (F : Nat → Nat) {k : Nat} (h : k < 8) : (rowU F)[k]? = some (.int .u64 (F k : Int)) := by
  rcases lt8 h with rfl | rfl | rfl | rfl | rfl | rfl | rfl | rfl <;> rfl
theorem rowU_set (F : Nat → Nat) (v : Nat) {k : Nat} (h : k < 8) : (rowU F).setIfInBounds k (.int .u64 (v : Int)) = rowU (updF F k v) := by
  rcases lt8 h with rfl | rfl | rfl | rfl | rfl | rfl | rfl | rfl <;> rfl
def textU (F : Nat → Nat) : ByteArray := ⟨(catL [F 0, F 1, F 2, F 3, F 4, F 5, F 6, F 7]).toArray⟩
theorem textU_size (F : Nat → Nat) : (textU F).size = 64 := by
  show (catL _).toArray.size = 64
  rw [List.size_toArray, catL_length]; rfl
def lineF (D : DevS) (l : Nat) : Nat → Nat := fun j => loadV D (8 * l + j)
theorem lineF_text (D : DevS) (l : Nat) : (⟨(getT D l).toArray⟩ : ByteArray) = textU (lineF D l) := rfl
theorem words_textU (F : Nat → Nat) (hF : ∀ j, F j < 18446744073709551616) : wordsV (textU F) = rowU F := by
  unfold wordsV rowU
  have h := wdL_all [F 0, F 1, F 2, F 3, F 4, F 5, F 6, F 7] (fun n hn => by
    simp only [List.mem_cons, List.not_mem_nil, or_false] at hn
    rcases hn with rfl | rfl | rfl | rfl | rfl | rfl | rfl | rfl <;> exact hF _)
  have e : (textU F).data.toList = catL [F 0, F 1, F 2, F 3, F 4, F 5, F 6, F 7] := by simp [textU]
  rw [e, h 0 _ rfl, h 1 _ rfl, h 2 _ rfl, h 3 _ rfl, h 4 _ rfl, h 5 _ rfl, h 6 _ rfl, h 7 _ rfl]
def writeWordS (p : PlanZ) (i k : Int) (v : Nat) (D : DevS) (B : BkS) : Int × DevS × BkS :=
  if k < 0 ∨ 8 ≤ k then (2, D, B)
  else if inP p i then
    (if D.off then (6, D, B)
    else if (pwE D (placeP p B i) k v).1 ≠ 0 then ((pwE D (placeP p B i) k v).1, (pwE D (placeP p B i) k v).2, B)
    else ensureS p i (placeP p B i) (textU (updF (lineF D (placeP p B i).toNat) k.toNat v)) (pwE D (placeP p B i) k v).2 B)
  else (3, D, B)
end Go.Proofs.YtifekejcbhllpaaGreat
