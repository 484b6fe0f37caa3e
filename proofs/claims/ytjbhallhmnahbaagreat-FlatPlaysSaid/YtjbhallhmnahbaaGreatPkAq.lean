/-
  PkAq: PmRb, PmRc.
-/
import Derived.Test.YtjbhallhmnahbaaGreatPkAp
import Derived.StillTailTactics

set_option linter.unusedVariables false

/-
  The reference of layer 3: begin, Load, Store, Flush.
-/
namespace Go.Proofs.YtjbhallhmnahbaaGreat
open Go.RowKit

def reachR (R : RefC) (t : Bool) : Int := if R.off then 6 else if t then 0 else 3
def begE (R : RefC) (t : Bool) : Int := if reachR R t ≠ 0 then reachR R t else if R.fuse = 1 then 6 else 0
def litR (R : RefC) : RefC := { R with fuse := if 1 < R.fuse then R.fuse - 1 else R.fuse, cnt := R.cnt + 1 }
def begR (R : RefC) (t : Bool) : RefC := if reachR R t ≠ 0 then R else if R.fuse = 1 then { R with fuse := 0, off := true } else litR R

set_option maxRecDepth 20000 in
set_option maxHeartbeats 1000000 in
theorem rbegin_any (r : RefA) (R : RefC) (z o : Int) (w : World) (h : RefRow w r R) (hc : R.cnt < 4611686018427387904) (hf : 0 ≤ R.fuse ∧ R.fuse ≤ 9223372036854775807) :
    Calls Tryz.prog 150 #[.pointer (some ⟨r.rd, 0, none⟩), .int .i64 z, .int .i64 o] w fun e w' => e = .returned (.int .i64 (begE R (decide (0 ≤ z ∧ z < o)))) ∧ RefRow w' r (begR R (decide (0 ≤ z ∧ z < o))) ∧ Gr r.all w w' := by
  have c3 := h.c3
  have c4 := h.c4
  have c5 := h.c5
  have f3 := h.fr 3
  have f4 := h.fr 4
  have f5 := h.fr 5
  have H := Lib.hid h
  have hall : ∀ b ∈ [r.rd], b ∈ r.all := fun b hb => by simp at hb; subst hb; simp [RefA.all]
  have HA := Lib.hid hall
  clear h hall
  cases ho : R.off with
  | true =>
    rw [ho] at c4
    have HE := Lib.hid (show begE R (decide (0 ≤ z ∧ z < o)) = 6 ∧ begR R (decide (0 ≤ z ∧ z < o)) = R by unfold begE begR reachR; rw [ho]; exact ⟨rfl, rfl⟩)
    clear ho
    go_enter Tryz.func150, Tryz.ntmps150
    go_wp2
    go_ret
    rw [HE.out.1, HE.out.2]
    exact ⟨rfl, H.out, Gr.refl _ _⟩
  | false =>
    rw [ho] at c4
    by_cases h0 : 0 ≤ z
    · have d0 : decide (z < 0) = false := by simp; omega
      by_cases h1 : z < o
      · have d1 : decide (o ≤ z) = false := by simp; omega
        have ht : decide (0 ≤ z ∧ z < o) = true := by simp; omega
        rw [ht]
        clear ht h0 h1
        by_cases hf1 : R.fuse = 1
        · have HE := Lib.hid (show begE R true = 6 ∧ begR R true = { R with fuse := 0, off := true } by
            have hr : reachR R true = 0 := by unfold reachR; rw [ho]; rfl
            constructor <;> simp [begE, begR, hr, hf1])
          rw [hf1] at c3
          clear ho hf1 hf hc
          have f4b : (w.setCell ⟨r.rd, 3, none⟩ (.int .i64 0)).frozen? ⟨r.rd, 4, none⟩ = false := (H.out.setFuse 0).fr 4
          go_enter Tryz.func150, Tryz.ntmps150
          go_wp2
          go_ret
          rw [HE.out.1, HE.out.2]
          exact ⟨rfl, (H.out.setFuse 0).setOff true, ((grSet _ _ _ _).trans (grSet _ _ _ _)).mono HA.out⟩
        · have HE := Lib.hid (show begE R true = 0 ∧ begR R true = litR R by
            have hr : reachR R true = 0 := by unfold reachR; rw [ho]; rfl
            constructor <;> simp [begE, begR, hr, hf1])
          by_cases hf2 : 1 < R.fuse
          · have HE := Lib.hid (show begE R true = 0 ∧ begR R true = { R with fuse := R.fuse - 1, cnt := R.cnt + 1 } by rw [HE.out.1, HE.out.2]; unfold litR; rw [if_pos hf2]; exact ⟨rfl, rfl⟩)
            have H2 := (H.out.setFuse (R.fuse - 1))
            have c5b : (w.setCell ⟨r.rd, 3, none⟩ (.int .i64 (R.fuse - 1))).cell? ⟨r.rd, 5, none⟩ = some (.int .i64 (R.cnt : Int)) := H2.c5
            have H3 := Lib.hid (H2.setCnt (R.cnt + 1))
            have g3 := Lib.hid ((grSet w r.rd 3 (.int .i64 (R.fuse - 1))).trans (grSet _ r.rd 5 (.int .i64 ((R.cnt + 1 : Nat) : Int))))
            have e1 : (R.fuse == 1) = false := by simpa using hf1
            have e2 : decide (1 < R.fuse) = true := by simpa using hf2
            clear H2
            generalize R.fuse = x at *
            generalize R.cnt = q at *
            clear hf1 ho
            go_enter Tryz.func150, Tryz.ntmps150
            go_wp2
            go_ret
            rw [HE.out.1, HE.out.2]
            exact ⟨rfl, H3.out, g3.out.mono HA.out⟩
          · have HE := Lib.hid (show begE R true = 0 ∧ begR R true = { R with cnt := R.cnt + 1 } by rw [HE.out.1, HE.out.2]; unfold litR; rw [if_neg hf2]; exact ⟨rfl, rfl⟩)
            have H3 := Lib.hid (H.out.setCnt (R.cnt + 1))
            have g3 := Lib.hid (grSet w r.rd 5 (.int .i64 ((R.cnt + 1 : Nat) : Int)))
            have e1 : (R.fuse == 1) = false := by simpa using hf1
            have e2 : decide (1 < R.fuse) = false := by simpa using hf2
            generalize R.fuse = x at *
            generalize R.cnt = q at *
            clear hf1 ho
            go_enter Tryz.func150, Tryz.ntmps150
            go_wp2
            go_ret
            rw [HE.out.1, HE.out.2]
            exact ⟨rfl, H3.out, g3.out.mono HA.out⟩
      · have d1 : decide (o ≤ z) = true := by simp; omega
        have ht : decide (0 ≤ z ∧ z < o) = false := by simp; omega
        rw [ht]
        have HE := Lib.hid (show begE R false = 3 ∧ begR R false = R by unfold begE begR reachR; rw [ho]; exact ⟨rfl, rfl⟩)
        clear ho ht h0 h1
        go_enter Tryz.func150, Tryz.ntmps150
        go_wp2
        go_ret
        rw [HE.out.1, HE.out.2]
        exact ⟨rfl, H.out, Gr.refl _ _⟩
    · have d0 : decide (z < 0) = true := by simp; omega
      have ht : decide (0 ≤ z ∧ z < o) = false := by simp; omega
      rw [ht]
      have HE := Lib.hid (show begE R false = 3 ∧ begR R false = R by unfold begE begR reachR; rw [ho]; exact ⟨rfl, rfl⟩)
      clear ho ht h0
      go_enter Tryz.func150, Tryz.ntmps150
      go_wp2
      go_ret
      rw [HE.out.1, HE.out.2]
      exact ⟨rfl, H.out, Gr.refl _ _⟩

/-! ### Load -/
def loadR (R : RefC) (z : Int) : Int × Int := if R.off then (0, 6) else if 0 ≤ z ∧ z < 8 * R.n then (if (R.ws z.toNat).t then ((R.ws z.toNat).v : Int) else ((R.ws z.toNat).m : Int), 0) else (0, 3)
set_option maxRecDepth 20000 in
set_option maxHeartbeats 1000000 in
theorem rload_any (r : RefA) (R : RefC) (z : Int) (w : World) (h : RefRow w r R) :
    Calls Tryz.prog 173 #[.pointer (some ⟨r.rd, 0, none⟩), .int .i64 z] w fun e w' => e = .returned (.tuple #[.int .u64 (loadR R z).1, .int .i64 (loadR R z).2]) ∧ w = w' := by
  have c0 := h.c0
  have c4 := h.c4
  have hn := h.hi
  cases ho : R.off with
  | true =>
    have HE := Lib.hid (show loadR R z = (0, 6) by unfold loadR; rw [ho]; rfl)
    rw [ho] at c4
    clear ho h
    go_enter Tryz.func173, Tryz.ntmps173
    go_wp2
    go_ret2
    rw [HE.out]
    exact ⟨rfl, rfl⟩
  | false =>
    rw [ho] at c4
    by_cases h0 : 0 ≤ z
    · have d0 : decide (z < 0) = false := by simp; omega
      by_cases h1 : z < 8 * R.n
      · obtain ⟨i, rfl⟩ := Int.eq_ofNat_of_zero_le h0
        have hi : i < 8 * R.n := by omega
        have d1 : decide (8 * (R.n : Int) ≤ (i : Int)) = false := by simp; omega
        have HE := Lib.hid (show loadR R (i : Int) = (if (R.ws i).t then ((R.ws i).v : Int) else ((R.ws i).m : Int), 0) by unfold loadR; rw [ho, if_neg (by simp), if_pos (by omega), Int.toNat_natCast])
        have m0 := h.wm hi
        have m1 := h.wt hi
        have m2 := h.wv hi
        clear h ho
        generalize R.n = n at *
        cases ht : (R.ws i).t with
        | true =>
          rw [ht] at m1 HE
          go_enter Tryz.func173, Tryz.ntmps173
          go_wp2
          go_ret2
          rw [HE.out]
          exact ⟨rfl, rfl⟩
        | false =>
          rw [ht] at m1 HE
          go_enter Tryz.func173, Tryz.ntmps173
          go_wp2
          go_ret2
          rw [HE.out]
          exact ⟨rfl, rfl⟩
      · have d1 : decide (8 * (R.n : Int) ≤ z) = true := by simp; omega
        have HE := Lib.hid (show loadR R z = (0, 3) by unfold loadR; rw [ho, if_neg (by simp), if_neg (by omega)])
        clear h ho
        generalize R.n = n at *
        go_enter Tryz.func173, Tryz.ntmps173
        go_wp2
        go_ret2
        rw [HE.out]
        exact ⟨rfl, rfl⟩
    · have d0 : decide (z < 0) = true := by simp; omega
      have HE := Lib.hid (show loadR R z = (0, 3) by unfold loadR; rw [ho, if_neg (by simp), if_neg (by omega)])
      clear h ho
      generalize R.n = n at *
      go_enter Tryz.func173, Tryz.ntmps173
      go_wp2
      go_ret2
      rw [HE.out]
      exact ⟨rfl, rfl⟩

/-! ### Store -/
theorem begE_zero {R : RefC} {t : Bool} (h : begE R t = 0) : t = true ∧ begR R t = litR R := by
  unfold begE at h
  by_cases hr : reachR R t = 0
  · rw [if_neg (by simp [hr])] at h
    by_cases hf : R.fuse = 1
    · rw [if_pos hf] at h; cases h
    · refine ⟨?_, by unfold begR; rw [if_neg (by simp [hr]), if_neg hf]⟩
      unfold reachR at hr
      cases ho : R.off <;> cases t <;> simp [ho] at hr ⊢
  · rw [if_pos hr] at h; exact absurd h hr
def storeW (ws : Nat → WordS) (i v : Nat) : Nat → WordS := updW ws i { m := (ws i).m, t := true, v := v, f := false }
def storeR (R : RefC) (z : Int) (v : Nat) : RefC := if begE R (decide (0 ≤ z ∧ z < 8 * R.n)) = 0 then { litR R with ws := storeW R.ws z.toNat v } else begR R (decide (0 ≤ z ∧ z < 8 * R.n))
theorem updW_twice (ws : Nat → WordS) (i : Nat) (x y : WordS) : updW (updW ws i x) i y = updW ws i y := by
  funext j
  unfold updW
  split <;> rfl

set_option maxRecDepth 20000 in
set_option maxHeartbeats 1000000 in
theorem rstore_any (r : RefA) (R : RefC) (z : Int) (v : Nat) (w : World) (h : RefRow w r R) (hc : R.cnt < 4611686018427387904) (hf : 0 ≤ R.fuse ∧ R.fuse ≤ 9223372036854775807) :
    Calls Tryz.prog 99 #[.pointer (some ⟨r.rd, 0, none⟩), .int .i64 z, .int .u64 v] w fun e w' => e = .returned (.int .i64 (begE R (decide (0 ≤ z ∧ z < 8 * R.n)))) ∧ RefRow w' r (storeR R z v) ∧ Gr r.all w w' := by
  have c0 := h.c0
  have hn := h.hi
  have HB := Lib.hid (rbegin_any r R z (8 * R.n) w h hc hf)
  obtain ⟨t, ht⟩ : ∃ t, decide (0 ≤ z ∧ z < 8 * (R.n : Int)) = t := ⟨_, rfl⟩
  have HT := Lib.hid ht
  unfold storeR
  rw [ht] at HB ⊢
  clear ht
  have H := Lib.hid h
  obtain ⟨n, hn2⟩ : ∃ n, n = R.n := ⟨_, rfl⟩
  rw [← hn2] at c0 HB hn HT
  have HN2 := Lib.hid hn2
  clear h hn2 hc hf
  go_enter Tryz.func99, Tryz.ntmps99
  go_wp2_with fail
  refine HB.out.mono ?_
  rintro e w1 ⟨rfl, R1, g1⟩
  by_cases h0 : begE R t = 0
  · have HZ0 := Lib.hid h0
    rw [h0]
    obtain ⟨h1, h2⟩ := begE_zero h0
    subst h1
    rw [h2] at R1
    have hz : 0 ≤ z ∧ z < 8 * (n : Int) := by have := HT.out; simpa using this
    obtain ⟨i, rfl⟩ := Int.eq_ofNat_of_zero_le hz.1
    have hi : i < 8 * n := by omega
    have hnn : (litR R).n = n := HN2.out.symm
    have k0 := R1.c0
    rw [hnn] at k0
    have k1 := R1.setT i true
    have k2 := k1.setV i v
    have k3 := k2.setF i false
    have f1 := R1.wz (i * 4 + 1)
    have f2 := R1.wz (i * 4 + 2)
    have f3 := R1.wz (i * 4 + 3)
    have m1 := R1.wt (i := i) (by rw [hnn]; exact hi)
    have m2 := R1.wv (i := i) (by rw [hnn]; exact hi)
    have m3 := R1.wf (i := i) (by rw [hnn]; exact hi)
    have a0 := k1.c0
    have a1 := k2.c0
    rw [show ({ litR R with ws := updW (litR R).ws i { (litR R).ws i with t := true } } : RefC).n = n from hnn] at a0
    rw [show ({ ({ litR R with ws := updW (litR R).ws i { (litR R).ws i with t := true } } : RefC) with ws := updW (updW (litR R).ws i { (litR R).ws i with t := true }) i { (updW (litR R).ws i { (litR R).ws i with t := true }) i with v := v } } : RefC).n = n from hnn] at a1
    have HD := Lib.hid (And.intro k3 (g1.trans ((((grSet w1 r.rw (i * 4 + 1) (.bool true)).trans (grSet _ r.rw (i * 4 + 2) (.int .u64 (v : Int)))).trans (grSet _ r.rw (i * 4 + 3) (.bool false))).mono (cs := r.all) (fun b hb => by simp at hb; subst hb; simp [RefA.all]))))
    clear k1 k2 k3 R1 g1 h0 h2
    go_wp2
    go_ret
    refine ⟨by first | rfl | rw [HZ0.out], ?_, HD.out.2⟩
    have q := HD.out.1
    rw [updW_same, updW_twice, updW_same, updW_twice] at q
    first
      | exact q
      | (rw [if_pos HZ0.out, Int.toNat_natCast]; exact q)
      | (rw [Int.toNat_natCast]; exact q)
      | (have hn3 := HN2.out; subst hn3; exact q)
  · have HZ0 := Lib.hid h0
    have e1 : (begE R t == 0) = false := by simpa using h0
    have HD := Lib.hid (And.intro R1 g1)
    clear R1 g1 h0
    go_wp2
    go_ret
    exact ⟨rfl, by first | exact HD.out.1 | (rw [if_neg HZ0.out]; exact HD.out.1), HD.out.2⟩

end Go.Proofs.YtjbhallhmnahbaaGreat

/-
  The reference of layer 3: Flush, last, Fence.
-/
namespace Go.Proofs.YtjbhallhmnahbaaGreat
open Go.RowKit

/-! ### Flush: the words of line l below j done -/
def flW (ws : Nat → WordS) (l j : Nat) : Nat → WordS := fun i => if 8 * l ≤ i ∧ i < 8 * l + j then { m := (ws i).m, t := (ws i).t, v := (ws i).v, f := (ws i).t } else ws i
theorem flW_zero (ws : Nat → WordS) (l : Nat) : flW ws l 0 = ws := by funext i; unfold flW; rw [if_neg (by omega)]
theorem flW_at (ws : Nat → WordS) (l j : Nat) : flW ws l j (8 * l + j) = ws (8 * l + j) := by unfold flW; rw [if_neg (by omega)]
theorem flW_succ (ws : Nat → WordS) (l j : Nat) (q : Nat) (hq : q = 8 * l + j) : updW (flW ws l j) q { flW ws l j q with f := (ws q).t } = flW ws l (j + 1) := by
  subst hq
  funext i
  rw [flW_at]
  unfold updW flW
  by_cases e : i = 8 * l + j
  · subst e; rw [if_pos rfl, if_pos (by omega)]
  · rw [if_neg e]
    by_cases q : 8 * l ≤ i ∧ i < 8 * l + j
    · rw [if_pos q, if_pos (by omega)]
    · rw [if_neg q, if_neg (by omega)]
def flushR (R : RefC) (z : Int) : RefC := if begE R (decide (0 ≤ z ∧ z < R.n)) = 0 then { litR R with ws := flW R.ws z.toNat 8 } else begR R (decide (0 ≤ z ∧ z < R.n))

set_option maxRecDepth 20000 in
set_option maxHeartbeats 2000000 in
theorem rflush_any (r : RefA) (R : RefC) (z : Int) (w : World) (h : RefRow w r R) (hc : R.cnt < 4611686018427387904) (hf : 0 ≤ R.fuse ∧ R.fuse ≤ 9223372036854775807) :
    Calls Tryz.prog 151 #[.pointer (some ⟨r.rd, 0, none⟩), .int .i64 z] w fun e w' => e = .returned (.int .i64 (begE R (decide (0 ≤ z ∧ z < R.n)))) ∧ RefRow w' r (flushR R z) ∧ Gr r.all w w' := by
  have c1 := h.c1
  have hn := h.hi
  have HB := Lib.hid (rbegin_any r R z R.n w h hc hf)
  obtain ⟨t, ht⟩ : ∃ t, decide (0 ≤ z ∧ z < (R.n : Int)) = t := ⟨_, rfl⟩
  have HT := Lib.hid ht
  unfold flushR
  rw [ht] at HB ⊢
  clear ht
  have H := Lib.hid h
  obtain ⟨n, hn2⟩ : ∃ n, n = R.n := ⟨_, rfl⟩
  rw [← hn2] at c1 HB hn HT
  have HN2 := Lib.hid hn2
  clear h hn2 hc hf
  go_enter Tryz.func151, Tryz.ntmps151
  go_wp2_with fail
  refine HB.out.mono ?_
  rintro e w1 ⟨rfl, R1, g1⟩
  by_cases h0 : begE R t = 0
  · have HZ0 := Lib.hid h0
    rw [h0]
    obtain ⟨h1, h2⟩ := begE_zero h0
    subst h1
    rw [h2] at R1
    have hz : 0 ≤ z ∧ z < (n : Int) := by have := HT.out; simpa using this
    obtain ⟨l, rfl⟩ := Int.eq_ofNat_of_zero_le hz.1
    have hl : l < n := by omega
    have R1 : RefRow w1 r { litR R with ws := flW R.ws l 0 } := by rw [flW_zero]; exact R1
    have HD := Lib.hid (And.intro R1 g1)
    clear R1 g1 h0 h2 hz c1
    go_wp2_with fail
    go_loopw [6] (fun i wr => ∃ j : Nat, j ≤ 8 ∧ i = .int .i64 (j : Int) ∧ RefRow wr r { litR R with ws := flW R.ws l j } ∧ Gr r.all w wr) (fun i _ => 8 - (intOf i).toNat)
    case atStart => exact ⟨0, by omega, rfl, HD.out.1, HD.out.2⟩
    case round =>
      clear HD
      obtain ⟨j, hj, rfl, R2, g2⟩ := hrel
      by_cases hlt : j < 8
      · have hd : decide ((j : Int) < 8) = true := by simp; omega
        obtain ⟨q, hq⟩ : ∃ q : Nat, q = 8 * l + j := ⟨_, rfl⟩
        have hqz : 8 * (l : Int) + (j : Int) = (q : Int) := by omega
        have hqn : q < 8 * n := by omega
        have hw1 : IntKind.i64.wrap (8 * (l : Int)) = 8 * (l : Int) := IntWalk.i64_in _ (by omega)
        have hw3 : IntKind.i64.wrap (q : Int) = (q : Int) := IntWalk.i64_in _ (by omega)
        have hw2 : IntKind.i64.wrap (8 * (l : Int) + (j : Int)) = (q : Int) := (IntWalk.i64_in _ (by omega)).trans hqz
        have hqb : (q : Int) < 8 * (n : Int) := by omega
        have hq0 : (0 : Int) ≤ (q : Int) := by omega
        have hnn : ({ litR R with ws := flW R.ws l j } : RefC).n = n := HN2.out.symm
        have k0 := R2.c0
        rw [hnn] at k0
        have m1 := R2.wt (i := q) (by rw [hnn]; exact hqn)
        have m3 := R2.wf (i := q) (by rw [hnn]; exact hqn)
        have f3 := R2.wz (q * 4 + 3)
        rw [show ({ litR R with ws := flW R.ws l j } : RefC).ws q = R.ws q by rw [hq]; exact flW_at R.ws l j] at m1 m3
        have HN := Lib.hid (And.intro (R2.setF q (R.ws q).t) (g2.trans ((grSet wr r.rw (q * 4 + 3) (.bool (R.ws q).t)).mono (cs := r.all) (fun b hb => by simp at hb; subst hb; simp [RefA.all]))))
        rw [show ({ ({ litR R with ws := flW R.ws l j } : RefC) with ws := updW (flW R.ws l j) q { flW R.ws l j q with f := (R.ws q).t } } : RefC) = { litR R with ws := flW R.ws l (j + 1) } by rw [flW_succ R.ws l j q hq]] at HN
        clear R2 g2 hq hnn
        generalize (R.ws q).t = tq at *
        generalize (R.ws q).f = fq at *
        go_wp2_with fail
        go_still_tail 21, (by kernel_rfl)
        go_wp2_with fail
        go_roundw
        case rel => exact ⟨j + 1, by omega, by go_num, HN.out.1.gr0 ((Gr.refl [] _).drew), HN.out.2.drew⟩
        case measure => simp [intOf]; omega
      · obtain rfl : j = 8 := by omega
        have HD := Lib.hid (And.intro R2 g2)
        clear R2 g2
        rw [show ((8 : Nat) : Int) = 8 from rfl]
        go_wp2_with fail
        go_ret
        refine ⟨by first | rfl | rw [HZ0.out], ?_, HD.out.2⟩
        have q := HD.out.1
        first
          | exact q
          | (rw [if_pos HZ0.out, Int.toNat_natCast]; exact q)
          | (have hn3 := HN2.out; subst hn3; exact q)
  · have HZ0 := Lib.hid h0
    have e1 : (begE R t == 0) = false := by simpa using h0
    have HD := Lib.hid (And.intro R1 g1)
    clear R1 g1 h0
    go_wp2_with fail
    refine wp_loop_rounds 1 ?_
    rw [rounds_succ]
    go_wp2_with fail
    go_ret
    exact ⟨rfl, by first | exact HD.out.1 | (rw [if_neg HZ0.out]; exact HD.out.1), HD.out.2⟩

/-! ### last: the words below k done -/
def laW (R : RefC) (S : Nat → Bool) (k : Nat) : Nat → WordS := fun i => if i < k ∧ S i = true then { m := if R.bad (i / 8) = true then (R.ws i).m else (R.ws i).v, t := false, v := (R.ws i).v, f := (R.ws i).f } else R.ws i
def laT (R : RefC) (S : Nat → Bool) (l : Nat) : Nat → Int := fun i => if i < l ∧ linesOf S i = true then R.wear i + 1 else R.wear i
theorem laW_zero (R : RefC) (S : Nat → Bool) : laW R S 0 = R.ws := by funext i; unfold laW; rw [if_neg (by omega)]
theorem laT_zero (R : RefC) (S : Nat → Bool) : laT R S 0 = R.wear := by funext i; unfold laT; rw [if_neg (by omega)]
theorem laW_at (R : RefC) (S : Nat → Bool) (k : Nat) : laW R S k k = R.ws k := by unfold laW; rw [if_neg (by omega)]
theorem laT_at (R : RefC) (S : Nat → Bool) (l : Nat) : laT R S l l = R.wear l := by unfold laT; rw [if_neg (by omega)]
theorem laW_skip (R : RefC) (S : Nat → Bool) (k : Nat) (h : S k = false) : laW R S k = laW R S (k + 1) := by
  funext i
  unfold laW
  by_cases q : i < k ∧ S i = true
  · rw [if_pos q, if_pos (show i < k + 1 ∧ S i = true from ⟨by omega, q.2⟩)]
  · rw [if_neg q, if_neg (show ¬ (i < k + 1 ∧ S i = true) from fun e => by
      by_cases c : i = k
      · subst c; rw [h] at e; cases e.2
      · exact q ⟨by omega, e.2⟩)]
theorem laW_next (R : RefC) (S : Nat → Bool) (k : Nat) (h : S k = true) (x : WordS) (hx : x = { m := if R.bad (k / 8) = true then (R.ws k).m else (R.ws k).v, t := false, v := (R.ws k).v, f := (R.ws k).f }) : updW (laW R S k) k x = laW R S (k + 1) := by
  subst hx
  funext i
  unfold updW
  by_cases c : i = k
  · subst c
    rw [if_pos (rfl : i = i)]
    unfold laW
    rw [if_pos (show i < i + 1 ∧ S i = true from ⟨by omega, h⟩)]
  · rw [if_neg c]
    unfold laW
    by_cases q : i < k ∧ S i = true
    · rw [if_pos q, if_pos (show i < k + 1 ∧ S i = true from ⟨by omega, q.2⟩)]
    · rw [if_neg q, if_neg (show ¬ (i < k + 1 ∧ S i = true) from fun e => q ⟨by omega, e.2⟩)]
theorem laT_skip (R : RefC) (S : Nat → Bool) (l : Nat) (h : linesOf S l = false) : laT R S l = laT R S (l + 1) := by
  funext i
  unfold laT
  by_cases q : i < l ∧ linesOf S i = true
  · rw [if_pos q, if_pos ⟨by omega, q.2⟩]
  · rw [if_neg q, if_neg (fun e => by
      by_cases c : i = l
      · subst c; rw [h] at e; cases e.2
      · exact q ⟨by omega, e.2⟩)]
theorem laT_next (R : RefC) (S : Nat → Bool) (l : Nat) (h : linesOf S l = true) : (fun i => if i = l then R.wear l + 1 else laT R S l i) = laT R S (l + 1) := by
  funext i
  by_cases c : i = l
  · subst c
    rw [if_pos rfl]
    unfold laT
    rw [if_pos ⟨by omega, h⟩]
  · rw [if_neg c]
    unfold laT
    by_cases q : i < l ∧ linesOf S i = true
    · rw [if_pos q, if_pos ⟨by omega, q.2⟩]
    · rw [if_neg q, if_neg (fun e => q ⟨by omega, e.2⟩)]
def lastR (R : RefC) (S : Nat → Bool) : RefC := { R with ws := laW R S (8 * R.n), wear := laT R S R.n }
structure Las (w wr : World) (r : RefA) (R : RefC) (S : Nat → Bool) (bc k l : Nat) : Prop where
  row : RefRow wr r { R with ws := laW R S k, wear := laT R S l }
  ch : Holds wr bc (rowOf (fun i => .bool (S i)) (8 * R.n)) 4
  gr : Gr r.all w wr

section
variable {w wr w' : World} {r : RefA} {R : RefC} {S : Nat → Bool} {bc k l : Nat}
theorem Las.drew (h : Las w wr r R S bc k l) : Las w wr.drew r R S bc k l := ⟨h.row.gr0 ((Gr.refl [] _).drew), h.ch.drew, h.gr.drew⟩
theorem Las.skipW (h : Las w wr r R S bc k l) (hs : S k = false) : Las w wr r R S bc (k + 1) l := ⟨by rw [← laW_skip R S k hs]; exact h.row, h.ch, h.gr⟩
theorem Las.skipT (h : Las w wr r R S bc k l) (hs : linesOf S l = false) : Las w wr r R S bc k (l + 1) := ⟨by rw [← laT_skip R S l hs]; exact h.row, h.ch, h.gr⟩
theorem Las.nextT (h : Las w wr r R S bc k l) (hs : linesOf S l = true) (hbc : bc ∉ r.all) : Las w (wr.setCell ⟨r.rr, l, none⟩ (.int .i64 (R.wear l + 1))) r R S bc k (l + 1) := by
  have g := grSet wr r.rr l (.int .i64 (R.wear l + 1))
  have q := h.row.setWear l (R.wear l + 1)
  refine ⟨?_, h.ch.gr g (by simpa using fun e => hbc (by rw [e]; simp [RefA.all])), h.gr.trans (g.mono (fun b hb => by simp at hb; subst hb; simp [RefA.all]))⟩
  rw [← laT_next R S l hs]
  exact q
theorem Las.nextW (h : Las w wr r R S bc k l) (hs : S k = true) (hb : R.bad (k / 8) = false) (hbc : bc ∉ r.all) : Las w ((wr.setCell ⟨r.rw, k * 4, none⟩ (.int .u64 ((R.ws k).v : Int))).setCell ⟨r.rw, k * 4 + 1, none⟩ (.bool false)) r R S bc (k + 1) l := by
  have g := (grSet wr r.rw (k * 4) (.int .u64 ((R.ws k).v : Int))).trans (grSet _ r.rw (k * 4 + 1) (.bool false))
  have q := (h.row.setM k (R.ws k).v).setT k false
  refine ⟨?_, h.ch.gr g (by simpa using fun e => hbc (by rw [e]; simp [RefA.all])), h.gr.trans (g.mono (fun b hb => by simp at hb; subst hb; simp [RefA.all]))⟩
  rw [← laW_next R S k hs { m := (R.ws k).v, t := false, v := (R.ws k).v, f := (R.ws k).f } (by rw [hb]; rfl)]
  dsimp only at q
  rw [updW_same, updW_twice, laW_at] at q
  exact q
theorem Las.nextB (h : Las w wr r R S bc k l) (hs : S k = true) (hb : R.bad (k / 8) = true) (hbc : bc ∉ r.all) : Las w (wr.setCell ⟨r.rw, k * 4 + 1, none⟩ (.bool false)) r R S bc (k + 1) l := by
  have g := grSet wr r.rw (k * 4 + 1) (.bool false)
  have q := h.row.setT k false
  refine ⟨?_, h.ch.gr g (by simpa using fun e => hbc (by rw [e]; simp [RefA.all])), h.gr.trans (g.mono (fun b hb => by simp at hb; subst hb; simp [RefA.all]))⟩
  rw [← laW_next R S k hs { m := (R.ws k).m, t := false, v := (R.ws k).v, f := (R.ws k).f } (by rw [hb]; rfl)]
  dsimp only at q
  rw [laW_at] at q
  exact q
end

set_option maxRecDepth 20000 in
set_option maxHeartbeats 2000000 in
theorem rlast_any (r : RefA) (R : RefC) (S : Nat → Bool) (bc n : Nat) (w : World) (h : RefRow w r R) (hn : R.n = n) (hch : Holds w bc (rowOf (fun i => .bool (S i)) (8 * n)) 4) (hbc : bc ∉ r.all) (hw : ∀ l, l < n → 0 ≤ R.wear l ∧ R.wear l < 4611686018427387904) :
    Calls Tryz.prog 74 #[.pointer (some ⟨r.rd, 0, none⟩), .slice (some ⟨bc, 0, none⟩) (8 * n) (8 * n)] w fun e w' => e = .returned (.tuple #[]) ∧ RefRow w' r (lastR R S) ∧ Gr r.all w w' := by
  have hn8 : n ≤ 8192 := by have := h.hi; omega
  have LS : Las w w r R S bc 0 0 := ⟨by rw [laW_zero, laT_zero]; exact h, by rw [hn]; exact hch, Gr.refl _ _⟩
  have HL := Lib.hid LS
  have HW := Lib.hid hw
  have HBC := Lib.hid hbc
  have HNN := Lib.hid hn
  clear h hn hch hw hbc LS
  go_enter Tryz.func74, Tryz.ntmps74
  go_wp2_with fail
  go_loopw [4] (fun i wr => ∃ l : Nat, l ≤ n ∧ i = .int .i64 (l : Int) ∧ Las w wr r R S bc (8 * l) l) (fun i _ => n - (intOf i).toNat)
  case atStart => exact ⟨0, by omega, rfl, HL.out⟩
  case round =>
    clear HL
    obtain ⟨l, hl, rfl, LS⟩ := hrel
    have k1 := LS.row.c1
    rw [show ({ R with ws := laW R S (8 * l), wear := laT R S l } : RefC).n = n from HNN.out] at k1
    by_cases hlt : l < n
    · have HL := Lib.hid LS
      have hd : decide ((l : Int) < (n : Int)) = true := by simpa using hlt
      clear LS
      go_wp2_with fail
      clear k1
      go_loopw [5, 6] (fun u i wr => ∃ (k : Nat) (sm : Bool), 8 * l ≤ k ∧ k ≤ 8 * l + 8 ∧ u = .bool sm ∧ i = .int .i64 (k : Int) ∧ (sm = true ↔ ∃ x, x / 8 = l ∧ x < k ∧ S x = true) ∧ Las w wr r R S bc k l) (fun _ i _ => 8 * l + 8 - (intOf i).toNat)
      case atStart => exact ⟨8 * l, false, by omega, by omega, rfl, by go_num, ⟨(fun e => by cases e), fun ⟨x, h1, h2, _⟩ => by omega⟩, HL.out⟩
      case round =>
        clear HL
        obtain ⟨k, sm, hk1, hk2, rfl, rfl, hsm, LS⟩ := hrel
        have HSM := Lib.hid hsm
        clear hsm
        by_cases hk : k < 8 * l + 8
        · have hdk : decide ((k : Int) < 8 * (l : Int) + 8) = true := by simp; omega
          have hk8 : k < 8 * n := by omega
          have hkb : (k : Int) < 8 * (n : Int) := by omega
          have hk0 : (0 : Int) ≤ (k : Int) := by omega
          have hkl : k / 8 = l := by omega
          have hnn : ({ R with ws := laW R S k, wear := laT R S l } : RefC).n = n := HNN.out
          have kc : wr.cell? ⟨bc, k, none⟩ = some (.bool (S k)) := by rw [LS.ch.cell, rowOf_get _ _ _ (by rw [HNN.out]; exact hk8)]
          cases hs : S k with
          | false =>
            rw [hs] at kc
            have HN := Lib.hid (LS.skipW hs)
            have HS2 := Lib.hid (show (sm = true ↔ ∃ x, x / 8 = l ∧ x < k + 1 ∧ S x = true) from by
              rw [HSM.out]
              constructor
              · rintro ⟨x, h1, h2, h3⟩; exact ⟨x, h1, by omega, h3⟩
              · rintro ⟨x, h1, h2, h3⟩
                refine ⟨x, h1, ?_, h3⟩
                by_cases e : x = k
                · subst e; rw [hs] at h3; cases h3
                · omega)
            clear LS hs HSM
            go_wp2_with fail
            go_roundw
            case rel => exact ⟨k + 1, sm, by omega, by omega, rfl, by go_num, HS2.out, HN.out⟩
            case measure => simp [intOf]; omega
          | true =>
            rw [hs] at kc
            have HS2 := Lib.hid (show ∃ x, x / 8 = l ∧ x < k + 1 ∧ S x = true from ⟨k, hkl, by omega, hs⟩)
            have k0 := LS.row.c0
            have k2 := LS.row.c2
            have kb := LS.row.badAt (i := l) (by rw [hnn]; exact hlt)
            have f1 := LS.row.wz (k * 4 + 1)
            have f0 := LS.row.wz (k * 4)
            rw [hnn] at k0 k2
            rw [show ({ R with ws := laW R S k, wear := laT R S l } : RefC).bad = R.bad from rfl] at kb
            have m0 := LS.row.wm (i := k) (by rw [hnn]; exact hk8)
            have m1 := LS.row.wt (i := k) (by rw [hnn]; exact hk8)
            have m2 := LS.row.wv (i := k) (by rw [hnn]; exact hk8)
            rw [show ({ R with ws := laW R S k, wear := laT R S l } : RefC).ws k = R.ws k from laW_at R S k] at m0 m1 m2
            cases hb : R.bad l with
            | true =>
              rw [hb] at kb
              have HN := Lib.hid (LS.nextB hs (by rw [hkl]; exact hb) HBC.out)
              clear LS hs hb HSM hnn
              generalize (R.ws k).m = wm at *
              generalize (R.ws k).t = wt at *
              generalize (R.ws k).v = wv at *
              go_wp2_with fail
              go_roundw
              case rel => exact ⟨k + 1, true, by omega, by omega, rfl, by go_num, ⟨fun _ => HS2.out, fun _ => rfl⟩, HN.out⟩
              case measure => simp [intOf]; omega
            | false =>
              rw [hb] at kb
              have HN := Lib.hid (LS.nextW hs (by rw [hkl]; exact hb) HBC.out)
              have q := LS.row.setM k (R.ws k).v
              have k0b := q.c0
              rw [show ({ ({ R with ws := laW R S k, wear := laT R S l } : RefC) with ws := updW (laW R S k) k { laW R S k k with m := (R.ws k).v } } : RefC).n = n from hnn] at k0b
              clear q LS hs hb HSM hnn
              generalize (R.ws k).m = wm at *
              generalize (R.ws k).t = wt at *
              generalize (R.ws k).v = wv at *
              go_wp2_with fail
              go_still_tail 15, (by kernel_rfl)
              go_wp2_with fail
              go_roundw
              case rel => exact ⟨k + 1, true, by omega, by omega, rfl, by go_num, ⟨fun _ => HS2.out, fun _ => rfl⟩, HN.out.drew⟩
              case measure => simp [intOf]; omega
        · have hdk : decide ((k : Int) < 8 * (l : Int) + 8) = false := by simp; omega
          obtain rfl : k = 8 * l + 8 := by omega
          have k1 := LS.row.c1
          have kw := LS.row.wearAt (i := l) (by show l < R.n; rw [HNN.out]; exact hlt)
          rw [show ({ R with ws := laW R S (8 * l + 8), wear := laT R S l } : RefC).n = n from HNN.out] at k1
          rw [show ({ R with ws := laW R S (8 * l + 8), wear := laT R S l } : RefC).wear l = R.wear l from laT_at R S l] at kw
          have fw : wr.frozen? ⟨r.rr, l, none⟩ = false := LS.row.wear.frozen l
          have hlb : (l : Int) < (n : Int) := by omega
          have hwl := HW.out l hlt
          cases sm with
          | true =>
            have hs : linesOf S l = true := linesOf_iff.2 (by obtain ⟨x, h1, _, h3⟩ := HSM.out.1 rfl; exact ⟨x, h3, h1⟩)
            have HN := Lib.hid (show Las w (wr.setCell ⟨r.rr, l, none⟩ (.int .i64 (R.wear l + 1))) r R S bc (8 * (l + 1)) (l + 1) from LS.nextT hs HBC.out)
            clear LS hs HSM
            generalize R.wear l = wl at *
            go_wp2_with fail
            go_roundw
            case rel => exact ⟨l + 1, by omega, by go_num, HN.out⟩
            case measure => simp [intOf]; omega
          | false =>
            have hs : linesOf S l = false := by
              cases hq : linesOf S l with
              | false => rfl
              | true =>
                obtain ⟨x, h1, h2⟩ := linesOf_iff.1 hq
                have := HSM.out.2 ⟨x, h2, by omega, h1⟩
                cases this
            have HN := Lib.hid (show Las w wr r R S bc (8 * (l + 1)) (l + 1) from LS.skipT hs)
            clear LS hs HSM
            generalize R.wear l = wl at *
            go_wp2_with fail
            go_roundw
            case rel => exact ⟨l + 1, by omega, by go_num, HN.out⟩
            case measure => simp [intOf]; omega
    · obtain rfl : l = n := by omega
      have HL := Lib.hid LS
      have hd : decide ((l : Int) < (l : Int)) = false := by simp
      clear LS
      go_wp2_with fail
      go_returns
      refine ⟨rfl, ?_, HL.out.gr⟩
      have q := HL.out.row
      rw [← HNN.out] at q
      exact q

end Go.Proofs.YtjbhallhmnahbaaGreat
