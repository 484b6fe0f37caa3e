/-
  MgS: LnK, LnL.
-/
import Derived.Test.YtgifjnniohcacaaGreatMgH
import Derived.Test.YtgifjnniohcacaaGreatMgG

/-
  The reference of layer 4: last, PutWord, Put.
-/
namespace Go.Proofs.YtgifjnniohcacaaGreat
open Go.RowKit
set_option linter.unusedVariables false

theorem RefIs.c0 {W : World} {r : RefA} {D : DevS} (h : RefIs W r D) : W.cell? ⟨r.rd, 0, none⟩ = some (.slice (some ⟨r.rw, 0, none⟩) (8 * D.n) (8 * D.n)) := by
  obtain ⟨R, h1, h2⟩ := h
  rw [← h2.n]; exact h1.c0
theorem RefIs.c1 {W : World} {r : RefA} {D : DevS} (h : RefIs W r D) : W.cell? ⟨r.rd, 1, none⟩ = some (.slice (some ⟨r.rr, 0, none⟩) D.n D.n) := by
  obtain ⟨R, h1, h2⟩ := h
  rw [← h2.n]; exact h1.c1
theorem RefIs.c4 {W : World} {r : RefA} {D : DevS} (h : RefIs W r D) : W.cell? ⟨r.rd, 4, none⟩ = some (.bool D.off) := by
  obtain ⟨R, h1, h2⟩ := h
  rw [← h2.off]; exact h1.c4
theorem RefIs.c5 {W : World} {r : RefA} {D : DevS} (h : RefIs W r D) : W.cell? ⟨r.rd, 5, none⟩ = some (.int .i64 (D.cnt : Int)) := by
  obtain ⟨R, h1, h2⟩ := h
  rw [← h2.cnt]; exact h1.c5
theorem RefIs.hi {W : World} {r : RefA} {D : DevS} (h : RefIs W r D) : D.n ≤ 8192 := by
  obtain ⟨R, h1, h2⟩ := h
  rw [← h2.n]; exact h1.hi
/-- Bounds that each step keeps. -/
def Fu (D : DevS) (c : Nat) : Prop := Bd D c ∧ 0 ≤ D.fuse ∧ D.fuse ≤ 9223372036854775807
theorem fuse_op {D : DevS} (h : 0 ≤ D.fuse ∧ D.fuse ≤ 9223372036854775807) (t : Bool) {f : DevS → DevS} (hf : (f (lit D)).fuse = (lit D).fuse) : 0 ≤ (opD D t f).fuse ∧ (opD D t f).fuse ≤ 9223372036854775807 := by
  unfold opD
  split
  · exact h
  · split
    · exact ⟨Int.le_refl _, by show (0 : Int) ≤ _; omega⟩
    · rw [hf]
      show 0 ≤ (if 1 < D.fuse then D.fuse - 1 else D.fuse) ∧ (if 1 < D.fuse then D.fuse - 1 else D.fuse) ≤ 9223372036854775807
      split <;> omega
theorem Fu.store {D : DevS} {c : Nat} (h : Fu D c) (z : Int) (v : Nat) (t : Bool) : Fu (opD D t (storeF z v)) (c + 1) := ⟨h.1.store z v t, fuse_op h.2 t rfl⟩
theorem Fu.flush {D : DevS} {c : Nat} (h : Fu D c) (z : Int) (t : Bool) : Fu (opD D t (flushF z)) (c + 1) := ⟨h.1.flush z t, fuse_op h.2 t rfl⟩
theorem Fu.fence {D : DevS} {c : Nat} (h : Fu D c) (t : Bool) : Fu (opD D t fenceF) (c + 1) := ⟨h.1.fence t, fuse_op h.2 t rfl⟩
theorem Fu.mono {D : DevS} {c c' : Nat} (h : Fu D c) (hc : c ≤ c') : Fu D c' := ⟨h.1.mono hc, h.2⟩
theorem opD_nn (D : DevS) (t : Bool) (f : DevS → DevS) (hf : (f (lit D)).n = D.n) : (opD D t f).n = D.n := opD_n D t f hf

set_option maxRecDepth 20000 in
theorem rlast4_any (r : RefA) (D : DevS) (l c : Nat) (w : World) (h : RefIs w r D) (hb : Fu D c) (hc : c < 1000000) :
    Calls Tryz.prog 75 #[.pointer (some ⟨r.rd, 0, none⟩), .int .i64 (l : Int)] w fun e w' => e = .returned (.int .i64 (finS l D).1) ∧ RefIs w' r (finS l D).2 ∧ Gr r.all w w' := by
  have HS := Lib.hid (ref_flush (l : Int) h (by have := hb.1.1; omega) hb.2)
  have HB := Lib.hid hb
  obtain ⟨T, hT⟩ : ∃ T, finS l D = T := ⟨_, rfl⟩
  rw [hT]
  unfold finS at hT
  clear h hb
  by_cases he : opE D (isLine D (l : Int)) = 0
  · rw [he] at HS
    have HT := Lib.hid (hT.symm.trans (if_pos he))
    clear he hT
    go_enter Tryz.func75, Tryz.ntmps75
    go_wp2_with fail
    refine HS.out.mono ?_
    rintro e w3 ⟨rfl, r3, g3⟩
    have b3 := HB.out.flush (l : Int) (isLine D (l : Int))
    have HS := Lib.hid (ref_fence r3 (by have := b3.1.1; omega) b3.2 (fun x => by have := b3.1.2 x; omega))
    have HN := Lib.hid g3
    clear r3 g3 b3
    go_wp2_with fail
    refine HS.out.mono ?_
    rintro e w4 ⟨rfl, r4, g4⟩
    have HN := Lib.hid (And.intro r4 (HN.out.trans g4))
    clear r4 g4 HS
    go_wp2_with fail
    go_ret
    rw [HT.out]
    exact ⟨rfl, HN.out.1, HN.out.2⟩
  · have HT := Lib.hid (hT.symm.trans (if_neg he))
    obtain ⟨ev, hev⟩ : ∃ ev, opE D (isLine D (l : Int)) = ev := ⟨_, rfl⟩
    rw [hev] at he HS HT
    have he2 : (ev == 0) = false := by simpa using he
    clear he hev hT
    go_enter Tryz.func75, Tryz.ntmps75
    go_wp2_with fail
    refine HS.out.mono ?_
    rintro e w3 ⟨rfl, r3, g3⟩
    have HN := Lib.hid (And.intro r3 g3)
    clear r3 g3 HS
    go_wp2_with fail
    go_ret
    rw [HT.out]
    exact ⟨rfl, HN.out.1, HN.out.2⟩

set_option maxRecDepth 20000 in
set_option maxHeartbeats 2000000 in
theorem rputword_any (r : RefA) (D : DevS) (z k : Int) (v c : Nat) (w : World) (h : RefIs w r D) (hb : Fu D c) (hc : c < 900000) :
    Calls Tryz.prog 46 #[.pointer (some ⟨r.rd, 0, none⟩), .int .i64 z, .int .i64 k, .int .u64 (v : Int)] w fun e w' => e = .returned (.int .i64 (pwE D z k v).1) ∧ RefIs w' r (pwE D z k v).2 ∧ Gr r.all w w' := by
  have HD := Lib.hid h
  have HB := Lib.hid hb
  by_cases hk0 : k < 0
  · have HE := Lib.hid (show pwE D z k v = (2, D) by unfold pwE; rw [if_pos (.inl hk0)])
    have hd : decide (k < 0) = true := by simpa using hk0
    clear h hb hk0
    go_enter Tryz.func46, Tryz.ntmps46
    go_wp2_with fail
    go_ret
    rw [HE.out]
    exact ⟨rfl, HD.out, Gr.refl _ _⟩
  · have hd : decide (k < 0) = false := by simpa using hk0
    by_cases hk7 : 7 < k
    · have HE := Lib.hid (show pwE D z k v = (2, D) by unfold pwE; rw [if_pos (.inr hk7)])
      have hd2 : decide ((7 : Int) < k) = true := by simpa using hk7
      clear h hb hk0 hk7
      go_enter Tryz.func46, Tryz.ntmps46
      go_wp2_with fail
      go_ret
      rw [HE.out]
      exact ⟨rfl, HD.out, Gr.refl _ _⟩
    · have hd2 : decide ((7 : Int) < k) = false := by simpa using hk7
      have c1 := h.c1
      have hn := h.hi
      cases hl : isLine D z with
      | false =>
        have HE := Lib.hid (show pwE D z k v = (3, D) by unfold pwE; rw [if_neg (by omega), hl]; rfl)
        have hz : ¬ (0 ≤ z ∧ z < D.n) := by unfold isLine at hl; exact of_decide_eq_false hl
        have hds : decide (z < 0) = true ∨ (decide (z < 0) = false ∧ decide ((D.n : Int) ≤ z) = true) := by
          by_cases h0 : z < 0
          · exact .inl (by simpa using h0)
          · exact .inr ⟨by simpa using h0, by simp; omega⟩
        clear h hb hk0 hk7 hl hz
        generalize D.n = n at *
        rcases hds with d1 | ⟨d1, d2⟩
        all_goals
          go_enter Tryz.func46, Tryz.ntmps46
          go_wp2_with fail
          go_ret
          rw [HE.out]
          exact ⟨rfl, HD.out, Gr.refl _ _⟩
      | true =>
        have hz : 0 ≤ z ∧ z < D.n := by unfold isLine at hl; exact of_decide_eq_true hl
        obtain ⟨l, rfl⟩ := Int.eq_ofNat_of_zero_le hz.1
        obtain ⟨q, rfl⟩ := Int.eq_ofNat_of_zero_le (show 0 ≤ k by omega)
        obtain ⟨T, hT⟩ : ∃ T, stos l q (fun _ => v) 1 0 D = T := ⟨_, rfl⟩
        have HE := Lib.hid (show pwE D (l : Int) (q : Int) v = T by unfold pwE; rw [if_neg (by omega), if_pos hl, Int.toNat_natCast, Int.toNat_natCast]; exact hT)
        have d1 : decide ((l : Int) < 0) = false := by simp
        have d2 : decide ((D.n : Int) ≤ (l : Int)) = false := by simp; omega
        have d2n : decide (D.n ≤ l) = false := by simp; omega
        have d2m : ¬ D.n ≤ l := by omega
        obtain ⟨x, hx⟩ : ∃ x : Nat, x = 8 * l + q + 0 := ⟨_, rfl⟩
        have hx2 : 8 * (l : Int) + (q : Int) = (x : Int) := by omega
        have hx3 : x ≤ 70000 := by omega
        have hl3 : l ≤ 8192 := by omega
        unfold stos at hT
        rw [← hx] at hT
        have HS := Lib.hid (ref_store (x : Int) v h (by have := hb.1.1; omega) hb.2)
        clear h hb hk0 hk7 hl hz hx
        generalize D.n = n at *
        by_cases he : opE D (isWord D (x : Int)) = 0
        · rw [he] at HS
          have HT := Lib.hid (hT.symm.trans (if_pos he))
          clear he hT
          go_enter Tryz.func46, Tryz.ntmps46
          go_wp2_with fail
          refine HS.out.mono ?_
          rintro e w3 ⟨rfl, r3, g3⟩
          have HL := Lib.hid (rlast4_any r _ l (c + 1) w3 r3 (HB.out.store (x : Int) v (isWord D (x : Int))) (by omega))
          have HN := Lib.hid g3
          clear r3 g3 HS
          go_wp2_with fail
          refine HL.out.mono ?_
          rintro e w4 ⟨rfl, r4, g4⟩
          have HN := Lib.hid (And.intro r4 (HN.out.trans g4))
          clear r4 g4
          go_wp2_with fail
          go_ret
          rw [HE.out, HT.out]
          exact ⟨rfl, HN.out.1, HN.out.2⟩
        · have HT := Lib.hid (hT.symm.trans (if_neg he))
          obtain ⟨ev, hev⟩ : ∃ ev, opE D (isWord D (x : Int)) = ev := ⟨_, rfl⟩
          rw [hev] at he HS HT
          have he2 : (ev == 0) = false := by simpa using he
          clear he hev hT
          go_enter Tryz.func46, Tryz.ntmps46
          go_wp2_with fail
          refine HS.out.mono ?_
          rintro e w3 ⟨rfl, r3, g3⟩
          have HN := Lib.hid (And.intro r3 g3)
          clear r3 g3 HS
          go_wp2_with fail
          go_ret
          rw [HE.out, HT.out]
          exact ⟨rfl, HN.out.1, HN.out.2⟩

/-! ### Put -/
theorem ext_word (s : ByteArray) (k : Nat) : getL ((s.extract (8 * k) (8 * k + 8)).data.toList.take 8) = wdL s.data.toList k := by
  rw [ext8, List.take_take, Nat.min_self]
  rfl
set_option maxRecDepth 20000 in
set_option maxHeartbeats 2000000 in
theorem rput4_any (r : RefA) (D : DevS) (z : Int) (s : ByteArray) (c : Nat) (w : World) (h : RefIs w r D) (hb : Fu D c) (hc : c < 900000) (hs : s.size ≤ maxLen) :
    Calls Tryz.prog 39 #[.pointer (some ⟨r.rd, 0, none⟩), .int .i64 z, .string s] w fun e w' => e = .returned (.int .i64 (putE D z s).1) ∧ RefIs w' r (putE D z s).2 ∧ Gr r.all w w' := by
  have HD := Lib.hid h
  have HB := Lib.hid hb
  have c1 := h.c1
  have hn := h.hi
  have HML := Lib.hid (show (8 : Nat) ≤ maxLen by unfold maxLen; omega)
  unfold maxLen at hs
  by_cases hsz : s.size = 64
  · cases hl : isLine D z with
    | false =>
      have HE := Lib.hid (show putE D z s = (3, D) by unfold putE; rw [if_neg (by simp [hsz]), hl]; rfl)
      have hz : ¬ (0 ≤ z ∧ z < D.n) := by unfold isLine at hl; exact of_decide_eq_false hl
      have hds : decide (z < 0) = true ∨ (decide (z < 0) = false ∧ decide ((D.n : Int) ≤ z) = true) := by
        by_cases h0 : z < 0
        · exact .inl (by simpa using h0)
        · exact .inr ⟨by simpa using h0, by simp; omega⟩
      clear h hb hl hz
      generalize D.n = n at *
      rcases hds with d1 | ⟨d1, d2⟩
      all_goals
        go_enter Tryz.func39, Tryz.ntmps39
        go_wp2_with fail
        go_ret
        rw [HE.out]
        exact ⟨rfl, HD.out, Gr.refl _ _⟩
    | true =>
      have hz : 0 ≤ z ∧ z < D.n := by unfold isLine at hl; exact of_decide_eq_true hl
      obtain ⟨l, rfl⟩ := Int.eq_ofNat_of_zero_le hz.1
      obtain ⟨T, hT⟩ : ∃ T, stos l 0 (wdL s.data.toList) 8 0 D = T := ⟨_, rfl⟩
      have HE := Lib.hid (show putE D (l : Int) s = T by unfold putE; rw [if_neg (by simp [hsz]), if_pos hl, Int.toNat_natCast]; exact hT)
      have d1 : decide ((l : Int) < 0) = false := by simp
      have d2 : decide ((D.n : Int) ≤ (l : Int)) = false := by simp; omega
      have d2n : decide (D.n ≤ l) = false := by simp; omega
      have d2m : ¬ D.n ≤ l := by omega
      have hl3 : l ≤ 8192 := by omega
      have HT := Lib.hid hT
      clear h hb hl hz hT
      generalize D.n = n at *
      go_enter Tryz.func39, Tryz.ntmps39
      go_wp2_with fail
      clear c1
      go_loopw [7] (fun u wr => ∃ (i : Nat) (D' : DevS), i ≤ 8 ∧ u = .int .i64 (i : Int) ∧ T = stos l 0 (wdL s.data.toList) (8 - i) i D' ∧ RefIs wr r D' ∧ Fu D' (c + i) ∧ Gr r.all w wr) (fun u _ => 8 - (intOf u).toNat)
      case atStart => exact ⟨0, D, by omega, rfl, HT.out.symm, HD.out, HB.out, Gr.refl _ _⟩
      case round =>
        clear HT HD HB
        obtain ⟨i, D', hi, rfl, hT, r2, b2, g2⟩ := hrel
        by_cases hlt : i < 8
        · have hd : decide ((i : Int) < 8) = true := by simp; omega
          obtain ⟨q, hq⟩ : ∃ q : Nat, q = 8 * i := ⟨_, rfl⟩
          have hqz : 8 * (i : Int) = (q : Int) := by omega
          have hq0 : (0 : Int) ≤ (q : Int) := by omega
          have hq1 : (q : Int) ≤ (q : Int) + 8 := by omega
          have hq2 : (q : Int) + 8 ≤ 64 := by omega
          have hn8 : ((q : Int) + 8).toNat = q + 8 := by omega
          have HGt := Lib.hid (rget_any (s.extract q (q + 8)) wr (by rw [ByteArray.size_extract]; exact Nat.le_trans (show min (q + 8) s.size - q ≤ 8 by omega) HML.out))
          rw [hq, ext_word s i] at HGt
          rw [← hq] at HGt
          obtain ⟨x, hx⟩ : ∃ x : Nat, x = 8 * l + 0 + i := ⟨_, rfl⟩
          have hx2 : 8 * (l : Int) + (i : Int) = (x : Int) := by omega
          rw [show 8 - i = (8 - i - 1) + 1 by omega] at hT
          unfold stos at hT
          rw [← hx] at hT
          obtain ⟨V, hV⟩ : ∃ V, wdL s.data.toList i = V := ⟨_, rfl⟩
          rw [hV] at hT HGt
          have HS := Lib.hid (fun W (g : Gr [] wr W) => ref_store (x : Int) V (r2.gr0 g) (by have := b2.1.1; omega) b2.2)
          have HT := Lib.hid hT
          have HB := Lib.hid (And.intro b2 g2)
          clear r2 b2 g2 hT hx hV hq
          by_cases he : opE D' (isWord D' (x : Int)) = 0
          · rw [he] at HS
            have HT := Lib.hid (HT.out.trans (if_pos he))
            clear he
            go_wp2_with fail
            refine HGt.out.mono ?_
            rintro e w3 ⟨rfl, rfl⟩
            have HQ := Lib.hid (Gr.refl [] wr)
            go_wp2_with fail
            refine (HS.out _ HQ.out).mono ?_
            rintro e w4 ⟨rfl, r4, g4⟩
            have HN := Lib.hid (And.intro r4 (And.intro (HB.out.1.store (x : Int) V (isWord D' (x : Int))) ((HB.out.2.next0 HQ.out).trans g4)))
            clear r4 g4 HS
            go_wp2_with fail
            go_roundw
            case rel => exact ⟨i + 1, _, by omega, by go_num, by rw [show 8 - (i + 1) = 8 - i - 1 by omega]; exact HT.out, HN.out.1, HN.out.2.1, HN.out.2.2⟩
            case measure => simp [intOf]; omega
          · have HT := Lib.hid (HT.out.trans (if_neg he))
            obtain ⟨ev, hev⟩ : ∃ ev, opE D' (isWord D' (x : Int)) = ev := ⟨_, rfl⟩
            rw [hev] at he HS HT
            have he2 : (ev == 0) = false := by simpa using he
            clear he hev
            go_wp2_with fail
            refine HGt.out.mono ?_
            rintro e w3 ⟨rfl, rfl⟩
            have HQ := Lib.hid (Gr.refl [] wr)
            go_wp2_with fail
            refine (HS.out _ HQ.out).mono ?_
            rintro e w4 ⟨rfl, r4, g4⟩
            have HN := Lib.hid (And.intro r4 ((HB.out.2.next0 HQ.out).trans g4))
            clear r4 g4 HS
            go_wp2_with fail
            go_ret
            rw [HE.out, HT.out]
            exact ⟨rfl, HN.out.1, HN.out.2⟩
        · obtain rfl : i = 8 := by omega
          have HT := Lib.hid (show T = finS l D' from hT)
          have HL := Lib.hid (rlast4_any r D' l (c + 8) wr r2 b2 (by omega))
          have HG := Lib.hid g2
          clear r2 b2 g2 hT
          rw [show ((8 : Nat) : Int) = 8 from rfl]
          go_wp2_with fail
          refine HL.out.mono ?_
          rintro e w4 ⟨rfl, r4, g4⟩
          have HN := Lib.hid (And.intro r4 (HG.out.trans g4))
          clear r4 g4
          go_wp2_with fail
          go_ret
          rw [HE.out, HT.out]
          exact ⟨rfl, HN.out.1, HN.out.2⟩
  · have HE := Lib.hid (show putE D z s = (2, D) by unfold putE; rw [if_pos hsz])
    have d3 : ((s.size : Int) != 64) = true := by simp; omega
    have d4 : ((s.size : Int) == 64) = false := by simp; omega
    clear h hb hsz
    go_enter Tryz.func39, Tryz.ntmps39
    go_wp2_with fail
    go_ret
    rw [HE.out]
    exact ⟨rfl, HD.out, Gr.refl _ _⟩

end Go.Proofs.YtgifjnniohcacaaGreat

/-
  The reference of layer 4: Get, Media.
-/
namespace Go.Proofs.YtgifjnniohcacaaGreat
open Go.RowKit
set_option linter.unusedVariables false

theorem cat_size (ns : List Nat) : (ByteArray.mk (catL ns).toArray).size = 8 * ns.length := by rw [size_is, catL_length]
theorem loadP_err {D : DevS} {z : Int} (h : reachE D (decide (0 ≤ z ∧ z < 8 * D.n)) ≠ 0) : loadP D z = (0, reachE D (decide (0 ≤ z ∧ z < 8 * D.n))) := by unfold loadP; rw [if_pos h]
theorem loadP_ok {D : DevS} {i : Nat} (ho : D.off = false) (hi : i < 8 * D.n) : loadP D (i : Int) = ((loadV D i : Int), 0) := by
  unfold loadP
  rw [if_neg (by rw [decide_eq_true (show 0 ≤ (i : Int) ∧ (i : Int) < 8 * D.n by omega)]; unfold reachE; rw [ho]; simp), Int.toNat_natCast]
set_option maxRecDepth 20000 in
set_option maxHeartbeats 2000000 in
theorem rget4_err (r : RefA) (D : DevS) (z : Int) (w : World) (h : RefIs w r D) (he : reachE D (isLine D z) ≠ 0) :
    Calls Tryz.prog 16 #[.pointer (some ⟨r.rd, 0, none⟩), .int .i64 z] w fun e w' => e = .returned (.tuple #[.string ⟨#[]⟩, .int .i64 (reachE D (isLine D z))]) ∧ Gr [] w w' := by
  have c4 := h.c4
  cases ho : D.off with
  | true =>
    have hr : ∀ t, reachE D t = 6 := fun t => by unfold reachE; rw [ho]; rfl
    have HL := Lib.hid (show ∀ x : Int, Calls Tryz.prog 47 #[.pointer (some ⟨r.rd, 0, none⟩), .int .i64 x] w fun e w' => e = .returned (.tuple #[.int .u64 0, .int .i64 6]) ∧ w = w' from fun x => by
      have q := ref_load x h
      rw [loadP_err (by rw [hr]; omega), hr] at q
      exact q)
    rw [hr]
    rw [ho] at c4
    clear h he ho hr
    go_enter Tryz.func16, Tryz.ntmps16
    go_wp2_with fail
    refine wp_loop_rounds 1 ?_
    rw [rounds_succ]
    go_wp2_with fail
    refine (HL.out _).mono ?_
    rintro e w' ⟨rfl, rfl⟩
    go_wp2_with fail
    go_ret2
    exact ⟨rfl, Gr.refl _ _⟩
  | false =>
    have hl : isLine D z = false := by
      cases hq : isLine D z with
      | false => rfl
      | true => rw [hq] at he; unfold reachE at he; rw [ho] at he; simp at he
    have hz : ¬ (0 ≤ z ∧ z < D.n) := by unfold isLine at hl; exact of_decide_eq_false hl
    have hr : reachE D (isLine D z) = 3 := by rw [hl]; unfold reachE; rw [ho]; rfl
    have c1 := h.c1
    have hn := h.hi
    have hds : decide (z < 0) = true ∨ (decide (z < 0) = false ∧ decide ((D.n : Int) ≤ z) = true) := by
      by_cases h0 : z < 0
      · exact .inl (by simpa using h0)
      · exact .inr ⟨by simpa using h0, by simp; omega⟩
    rw [hr]
    rw [ho] at c4
    clear h he ho hl hz hr
    generalize D.n = n at *
    rcases hds with d1 | ⟨d1, d2⟩
    all_goals
      go_enter Tryz.func16, Tryz.ntmps16
      go_wp2_with fail
      go_ret2
      exact ⟨rfl, Gr.refl _ _⟩

set_option maxRecDepth 20000 in
set_option maxHeartbeats 2000000 in
theorem rget4_yes (r : RefA) (D : DevS) (l : Nat) (w : World) (h : RefIs w r D) (hl : l < D.n) (ho : D.off = false) (hlt8 : ∀ i, loadV D i < 18446744073709551616) :
    Calls Tryz.prog 16 #[.pointer (some ⟨r.rd, 0, none⟩), .int .i64 (l : Int)] w fun e w' => e = .returned (.tuple #[.string ⟨(getT D l).toArray⟩, .int .i64 0]) ∧ Gr [] w w' := by
  have c4 := h.c4
  have c1 := h.c1
  have hn := h.hi
  rw [ho] at c4
  have d1 : decide ((l : Int) < 0) = false := by simp
  have d2n : decide (D.n ≤ l) = false := by simp; omega
  have d2m : ¬ D.n ≤ l := by omega
  have hl3 : l ≤ 8192 := by omega
  obtain ⟨F, hF⟩ : ∃ F : Nat → Nat, ∀ k, F k = loadV D (8 * l + k) := ⟨fun k => loadV D (8 * l + k), fun _ => rfl⟩
  obtain ⟨ns, hns⟩ : ∃ ns : List Nat, ns = [F 0, F 1, F 2, F 3, F 4, F 5, F 6, F 7] := ⟨_, rfl⟩
  have HL := Lib.hid (show ∀ W, Gr [] w W → ∀ k : Nat, k < 8 → Calls Tryz.prog 47 #[.pointer (some ⟨r.rd, 0, none⟩), .int .i64 ((8 * l + k : Nat) : Int)] W fun e w' => e = .returned (.tuple #[.int .u64 (F k : Int), .int .i64 0]) ∧ W = w' from fun W g k hk => by
    have q := ref_load ((8 * l + k : Nat) : Int) (h.gr0 g)
    rw [loadP_ok ho (by omega)] at q
    rw [hF]
    exact q)
  have HFB := Lib.hid (show ∀ k, F k < 18446744073709551616 from fun k => by rw [hF]; exact hlt8 _)
  have HNS := Lib.hid (show ∀ k, k < 8 → ns[k]? = some (F k) from fun k hk => by
    rw [hns]
    rcases (show k = 0 ∨ k = 1 ∨ k = 2 ∨ k = 3 ∨ k = 4 ∨ k = 5 ∨ k = 6 ∨ k = 7 by omega) with rfl | rfl | rfl | rfl | rfl | rfl | rfl | rfl <;> rfl)
  have HNL := Lib.hid (show ns.length = 8 by rw [hns]; rfl)
  have HT := Lib.hid (show getT D l = catL ns by rw [hns]; unfold getT; rw [hF, hF, hF, hF, hF, hF, hF, hF]; rfl)
  clear h hl ho hF hns hlt8
  generalize D.n = n at *
  go_enter Tryz.func16, Tryz.ntmps16
  go_wp2_with fail
  clear c1 c4 d2n d2m
  go_loopw [6, 7] (fun u z wr => ∃ (k : Nat) (S : ByteArray), k ≤ 8 ∧ u = .string S ∧ z = .int .i64 (k : Int) ∧ S = ⟨(catL (ns.take k)).toArray⟩ ∧ Gr [] w wr) (fun _ z _ => 8 - (intOf z).toNat)
  case atStart => exact ⟨0, ⟨#[]⟩, by omega, rfl, rfl, rfl, Gr.refl _ _⟩
  case round =>
    obtain ⟨k, S, hk, rfl, rfl, hS, g⟩ := hrel
    by_cases hlt : k < 8
    · have hd : decide ((k : Int) < 8) = true := by simp; omega
      have hss : S.size = 8 * k := by rw [hS, cat_size, List.length_take, HNL.out]; omega
      have hsl : S.size ≤ 64 := by omega
      obtain ⟨x, hx⟩ : ∃ x : Nat, x = 8 * l + k := ⟨_, rfl⟩
      have hx2 : 8 * (l : Int) + (k : Int) = (x : Int) := by omega
      have HLk := Lib.hid (HL.out wr g k hlt)
      rw [← hx] at HLk
      have HPk := Lib.hid (rput_any (F k) 8 wr (HFB.out k) (by omega) (by omega))
      rw [show clamp8 8 = 8 from rfl] at HPk
      have HCat := Lib.hid (show S ++ ByteArray.mk (putL (F k) 8).toArray = ByteArray.mk (catL (ns.take (k + 1))).toArray by rw [hS]; exact catL_str ns k (F k) (HNS.out k hlt))
      have HPS := Lib.hid (show (ByteArray.mk (putL (F k) 8).toArray).size = 8 by rw [size_is, putL_length])
      have HG := Lib.hid g
      clear g hS hx hss
      generalize F k = v at *
      go_wp2_with fail
      refine HLk.out.mono ?_
      rintro e w' ⟨rfl, rfl⟩
      go_wp2_with fail
      refine HPk.out.mono ?_
      rintro e w3 ⟨rfl, q3⟩
      have HG3 := Lib.hid (HG.out.nextB q3)
      clear q3
      obtain ⟨Y, hY⟩ : ∃ Y, ByteArray.mk (putL v 8).toArray = Y := ⟨_, rfl⟩
      have hYs : Y.size = 8 := by rw [← hY]; exact HPS.out
      rw [hY] at HCat
      rw [hY]
      clear hY
      go_wp2_with fail
      go_roundw
      case rel => exact ⟨k + 1, _, by omega, rfl, by go_num, HCat.out, HG3.out⟩
      case measure => simp [intOf]; omega
    · obtain rfl : k = 8 := by omega
      have HE := Lib.hid (show S = ⟨(getT D l).toArray⟩ by rw [hS, HT.out, List.take_of_length_le (by rw [HNL.out]; omega)])
      have HG := Lib.hid g
      clear hS g
      rw [show ((8 : Nat) : Int) = 8 from rfl]
      go_wp2_with fail
      go_ret2
      rw [HE.out]
      exact ⟨rfl, HG.out⟩

/-! ### Media -/
def medT (D : DevS) (l : Nat) : List UInt8 := catL [D.med (8 * l), D.med (8 * l + 1), D.med (8 * l + 2), D.med (8 * l + 3), D.med (8 * l + 4), D.med (8 * l + 5), D.med (8 * l + 6), D.med (8 * l + 7)]
theorem RefIs.wm {W : World} {r : RefA} {D : DevS} (h : RefIs W r D) {i : Nat} (hi : i < 8 * D.n) : W.cell? ⟨r.rw, i * 4, none⟩ = some (.int .u64 (D.med i : Int)) := by
  obtain ⟨R, h1, h2⟩ := h
  rw [← h2.med i hi]
  exact h1.wm (by rw [h2.n]; exact hi)
set_option maxRecDepth 20000 in
set_option maxHeartbeats 2000000 in
theorem rmedia4_any (r : RefA) (D : DevS) (l : Nat) (w : World) (h : RefIs w r D) (hl : l < D.n) (hlt8 : ∀ i, D.med i < 18446744073709551616) :
    Calls Tryz.prog 33 #[.pointer (some ⟨r.rd, 0, none⟩), .int .i64 (l : Int)] w fun e w' => e = .returned (.string ⟨(medT D l).toArray⟩) ∧ Gr [] w w' := by
  have hn := h.hi
  have hl3 : l ≤ 8192 := by omega
  obtain ⟨F, hF⟩ : ∃ F : Nat → Nat, ∀ k, F k = D.med (8 * l + k) := ⟨fun k => D.med (8 * l + k), fun _ => rfl⟩
  obtain ⟨ns, hns⟩ : ∃ ns : List Nat, ns = [F 0, F 1, F 2, F 3, F 4, F 5, F 6, F 7] := ⟨_, rfl⟩
  have HFB := Lib.hid (show ∀ k, F k < 18446744073709551616 from fun k => by rw [hF]; exact hlt8 _)
  have HNS := Lib.hid (show ∀ k, k < 8 → ns[k]? = some (F k) from fun k hk => by
    rw [hns]
    rcases (show k = 0 ∨ k = 1 ∨ k = 2 ∨ k = 3 ∨ k = 4 ∨ k = 5 ∨ k = 6 ∨ k = 7 by omega) with rfl | rfl | rfl | rfl | rfl | rfl | rfl | rfl <;> rfl)
  have HNL := Lib.hid (show ns.length = 8 by rw [hns]; rfl)
  have HT := Lib.hid (show medT D l = catL ns by rw [hns]; unfold medT; rw [hF, hF, hF, hF, hF, hF, hF, hF]; rfl)
  have H := Lib.hid (And.intro h hl)
  have HF := Lib.hid hF
  clear h hns hlt8 hF
  go_enter Tryz.func33, Tryz.ntmps33
  go_wp2_with fail
  go_loopw [5, 6] (fun u z wr => ∃ (k : Nat) (S : ByteArray), k ≤ 8 ∧ u = .string S ∧ z = .int .i64 (k : Int) ∧ S = ⟨(catL (ns.take k)).toArray⟩ ∧ Gr [] w wr) (fun _ z _ => 8 - (intOf z).toNat)
  case atStart => exact ⟨0, ⟨#[]⟩, by omega, rfl, rfl, rfl, Gr.refl _ _⟩
  case round =>
    obtain ⟨k, S, hk, rfl, rfl, hS, g⟩ := hrel
    by_cases hlt : k < 8
    · have hd : decide ((k : Int) < 8) = true := by simp; omega
      have hss : S.size = 8 * k := by rw [hS, cat_size, List.length_take, HNL.out]; omega
      have hsl : S.size ≤ 64 := by omega
      obtain ⟨x, hx⟩ : ∃ x : Nat, x = 8 * l + k := ⟨_, rfl⟩
      have hx2 : 8 * (l : Int) + (k : Int) = (x : Int) := by omega
      have hxn : x < 8 * D.n := by have := H.out.2; omega
      have hxi : (x : Int) < 8 * (D.n : Int) := by omega
      have hx0 : (0 : Int) ≤ (x : Int) := by omega
      have c0 := (H.out.1.gr0 g).c0
      have m0 := (H.out.1.gr0 g).wm hxn
      rw [show D.med x = F k by rw [HF.out, hx]] at m0
      have HPk := Lib.hid (rput_any (F k) 8 wr (HFB.out k) (by omega) (by omega))
      rw [show clamp8 8 = 8 from rfl] at HPk
      have HCat := Lib.hid (show S ++ ByteArray.mk (putL (F k) 8).toArray = ByteArray.mk (catL (ns.take (k + 1))).toArray by rw [hS]; exact catL_str ns k (F k) (HNS.out k hlt))
      have HPS := Lib.hid (show (ByteArray.mk (putL (F k) 8).toArray).size = 8 by rw [size_is, putL_length])
      have HG := Lib.hid g
      clear g hS hx hss
      generalize F k = v at *
      generalize D.n = n at *
      go_wp2_with fail
      refine HPk.out.mono ?_
      rintro e w3 ⟨rfl, q3⟩
      have HG3 := Lib.hid (HG.out.nextB q3)
      clear q3
      obtain ⟨Y, hY⟩ : ∃ Y, ByteArray.mk (putL v 8).toArray = Y := ⟨_, rfl⟩
      have hYs : Y.size = 8 := by rw [← hY]; exact HPS.out
      rw [hY] at HCat
      rw [hY]
      clear hY
      go_wp2_with fail
      go_roundw
      case rel => exact ⟨k + 1, _, by omega, rfl, by go_num, HCat.out, HG3.out⟩
      case measure => simp [intOf]; omega
    · obtain rfl : k = 8 := by omega
      have HE := Lib.hid (show S = ⟨(medT D l).toArray⟩ by rw [hS, HT.out, List.take_of_length_le (by rw [HNL.out]; omega)])
      have HG := Lib.hid g
      clear hS g
      rw [show ((8 : Nat) : Int) = 8 from rfl]
      go_wp2_with fail
      go_ret
      rw [HE.out]
      exact ⟨rfl, HG.out⟩

end Go.Proofs.YtgifjnniohcacaaGreat
