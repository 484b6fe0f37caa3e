/-
  Layer 3's laws: does.
-/
import Derived.Test.YtphaaebbofgdnaaPmRg
import Derived.Deep.RegionHeld3
namespace Go.Proofs.Ytphaaebbofgdnaa
open Go.RowKit

/-- How much was done, how often a line was written, at most. -/
def Bnd (D : DevS) (c : Nat) : Prop := D.cnt ≤ c ∧ ∀ l, 0 ≤ D.wear l ∧ D.wear l ≤ (c : Int)
theorem Bnd.mono {D : DevS} {c : Nat} (h : Bnd D c) : Bnd D (c + 1) := ⟨by have := h.1; omega, fun l => by have := h.2 l; omega⟩
theorem Bnd.persist {D : DevS} {c : Nat} (h : Bnd D c) (S : Nat → Bool) (l : Nat) : 0 ≤ perWear D (linesOf S) l ∧ perWear D (linesOf S) l ≤ ((c + 1 : Nat) : Int) := by
  have := h.2 l
  unfold perWear
  have e : ∀ (p : Prop) [Decidable p], 0 ≤ (if p then D.wear l + 1 else D.wear l) ∧ (if p then D.wear l + 1 else D.wear l) ≤ ((c + 1 : Nat) : Int) := fun p _ => by split <;> omega
  exact e _
theorem Bnd.op {D : DevS} {c : Nat} (h : Bnd D c) (t : Bool) {f : DevS → DevS} (hf : Bnd (f (lit D)) (c + 1)) : Bnd (opD D t f) (c + 1) := by
  unfold opD
  split
  · exact h.mono
  · split
    · exact h.mono
    · exact hf
theorem Bnd.store {D : DevS} {c : Nat} (h : Bnd D c) (z : Int) (v : Nat) : Bnd (opD D (isWord D z) (storeF z v)) (c + 1) := h.op _ ⟨by have := h.1; show D.cnt + 1 ≤ c + 1; omega, fun l => h.mono.2 l⟩
theorem Bnd.flush {D : DevS} {c : Nat} (h : Bnd D c) (z : Int) : Bnd (opD D (isLine D z) (flushF z)) (c + 1) := h.op _ ⟨by have := h.1; show D.cnt + 1 ≤ c + 1; omega, fun l => h.mono.2 l⟩
theorem Bnd.fence {D : DevS} {c : Nat} (h : Bnd D c) : Bnd (opD D true fenceF) (c + 1) := h.op _ ⟨by have := h.1; show D.cnt + 1 ≤ c + 1; omega, fun l => Bnd.persist (D := lit D) h _ l⟩
theorem Bnd.boot {D : DevS} {c : Nat} (h : Bnd D c) (L : List Nat) (kp : Nat → Bool) : Bnd (bootD D L kp) (c + 1) := ⟨by have := h.1; show D.cnt ≤ c + 1; omega, fun l => h.persist _ l⟩
theorem opD_n (D : DevS) (t : Bool) (f : DevS → DevS) (hf : (f (lit D)).n = D.n) : (opD D t f).n = D.n := by
  unfold opD
  split
  · rfl
  · split
    · rfl
    · exact hf
theorem max0r (P : Program) (ts : Array TypeId) (t : TypeId) (y : Int) (w : World) : (Builtin.max_ ts t #[.int .i64 y, .int .i64 0]).run P w = .ok (.int .i64 (mx y)) w := by
  rw [run_max_int2]
  have : (if (0 : Int) > y then 0 else y) = mx y := by unfold mx; split <;> omega
  rw [this]
theorem minIsR (P : Program) (L m k : Nat) (kI : Int) (hk : kI = k) (h : m = min L k) (ts : Array TypeId) (t : TypeId) (w : World) : (Builtin.min_ ts t #[.int .i64 (L : Int), .int .i64 kI]).run P w = .ok (.int .i64 (m : Int)) w := by
  subst hk
  rw [run_min_int2]
  have : (if (k : Int) < (L : Int) then (k : Int) else (L : Int)) = (m : Int) := by split <;> omega
  rw [this]
theorem cell_gr {W W' : World} {bs : List Nat} {b o : Nat} (g : Gr bs W W') (hb : b < W.heap.size) (hn : b ∉ bs) : W'.cell? ⟨b, o, none⟩ = W.cell? ⟨b, o, none⟩ := World.cell?_of_block (w := W) (g.block b hb hn)

/-- What an act leaves. -/
def DoesPost (a : DevA) (r : RefA) (D : DevS) (c : Nat) (w : World) (e : Ending) (w' : World) : Prop := ∃ D', e = .returned (.bool true) ∧ DevIs w' a D' ∧ RefIs w' r D' ∧ Gr (a.all ++ r.all) w w' ∧ D'.n = D.n ∧ Bnd D' (c + 1)

set_option maxRecDepth 100000 in
set_option maxHeartbeats 8000000 in
theorem does_any (a : DevA) (r : RefA) (D : DevS) (c : Nat) (d z : Int) (v : Nat) (ao : Option Addr) (kl kc : Nat) (kp : Nat → Bool) (w : World) (h : DevIs w a D) (hr : RefIs w r D) (hsep : ∀ b ∈ a.all, b ∉ r.all) (hb : Bnd D c) (hc : c < 1000000)
    (hz : -9223372036854775808 ≤ z ∧ z ≤ 9223372036854775807) (hv : v < 18446744073709551616)
    (hk : ∀ j, j < kl → ∃ b o, ao = some ⟨b, o, none⟩ ∧ b < w.heap.size ∧ b ∉ a.all ∧ w.cell? ⟨b, o + j, none⟩ = some (.bool (kp j))) (hkl : kl ≤ kc) (hkc : kc ≤ maxLen) (hkn : ao = none → kc = 0) :
    Calls Try.prog 15 #[.pointer (some ⟨a.bd, 0, none⟩), .pointer (some ⟨r.rd, 0, none⟩), .agg #[.int .i64 d, .int .i64 z, .int .u64 (v : Int), .slice ao kl kc]] w fun e w' => DoesPost a r D c w e w' := by
  have hmx := max0 Try.prog
  have hmr := max0r Try.prog
  have hd0 := mx_nonneg d
  have hs : mx d % 8 = 0 ∨ mx d % 8 = 1 ∨ mx d % 8 = 2 ∨ mx d % 8 = 3 ∨ mx d % 8 = 4 ∨ mx d % 8 = 5 ∨ mx d % 8 = 6 ∨ mx d % 8 = 7 := by omega
  have HV := Lib.hid hv
  have HK := Lib.hid hk
  have HB := Lib.hid hb
  have HSEP := Lib.hid hsep
  have HCN := Lib.hid (show D.cnt < 4611686018427387904 by have := hb.1; omega)
  have HW := Lib.hid (show ∀ l, 0 ≤ D.wear l ∧ D.wear l < 4611686018427387904 from fun l => by have := hb.2 l; omega)
  have HFU := Lib.hid h.ok.fu
  have HSU := Lib.hid h.ok.sup
  have X := Holds.new w #[Value.int .i64 d, .int .i64 z, .int .u64 (v : Int), .slice ao kl kc] 33
  have g0 : Gr [] w (w.alloc (Obj.cells #[Value.int .i64 d, .int .i64 z, .int .u64 (v : Int), .slice ao kl kc] 33)) := (Gr.refl [] w).alloc _
  have HD := Lib.hid (h.gr0 g0)
  have HR := Lib.hid (hr.gr0 g0)
  have HG := Lib.hid g0
  have HLT := Lib.hid (show w.heap.size ∉ a.all ∧ w.heap.size ∉ r.all from ⟨fun e => by have := h.lt _ e; omega, fun e => by have := hr.lt _ e; omega⟩)
  have HXL := Lib.hid X.lt
  unfold maxLen at hkc
  clear h hr hb hsep hv hk g0
  have HDW := Lib.hid (show ∀ W, Gr [] (w.alloc (Obj.cells #[Value.int .i64 d, .int .i64 z, .int .u64 (v : Int), .slice ao kl kc] 33)) W → DevIs W a D ∧ RefIs W r D from fun W g => ⟨HD.out.gr0 g, HR.out.gr0 g⟩)
  have HAR := Lib.hid (show ∀ W W' D', Gr [] (w.alloc (Obj.cells #[Value.int .i64 d, .int .i64 z, .int .u64 (v : Int), .slice ao kl kc] 33)) W → Gr a.all W W' → DevIs W' a D' → RefIs W' r D ∧ W'.cell? ⟨w.heap.size, 1, none⟩ = some (.int .i64 z) ∧ W'.cell? ⟨w.heap.size, 2, none⟩ = some (.int .u64 (v : Int)) from fun W W' D' g g' _ => by
    refine ⟨(HR.out.gr0 g).gr g' (fun b hb e => HSEP.out b e hb), ?_, ?_⟩
    · rw [cell_gr g' (Nat.lt_of_lt_of_le HXL.out g.size) HLT.out.1, g.cell0 HXL.out]; exact X.cell 1
    · rw [cell_gr g' (Nat.lt_of_lt_of_le HXL.out g.size) HLT.out.1, g.cell0 HXL.out]; exact X.cell 2)
  have HKR := Lib.hid (show ∀ W W', (W.cell? ⟨w.heap.size, 1, none⟩ = some (.int .i64 z) ∧ W.cell? ⟨w.heap.size, 2, none⟩ = some (.int .u64 (v : Int))) → Gr r.all W W' → W'.cell? ⟨w.heap.size, 1, none⟩ = some (.int .i64 z) ∧ W'.cell? ⟨w.heap.size, 2, none⟩ = some (.int .u64 (v : Int)) from fun W W' q g => by
    have hl := World.block_lt_of_cell? _ _ q.1
    exact ⟨(cell_gr g hl HLT.out.2).trans q.1, (cell_gr g hl HLT.out.2).trans q.2⟩)
  have HFIN := Lib.hid (show ∀ W W' W'' D', Gr [] (w.alloc (Obj.cells #[Value.int .i64 d, .int .i64 z, .int .u64 (v : Int), .slice ao kl kc] 33)) W → Gr a.all W W' → DevIs W' a D' → Gr r.all W' W'' → DevIs W'' a D' ∧ Gr (a.all ++ r.all) w W'' from fun W W' W'' D' g g' hd' g'' => by
    refine ⟨hd'.gr g'' (fun b hb e => HSEP.out b hb e), ?_⟩
    exact ((((HG.out.trans g).of0 (cs := a.all ++ r.all)).trans (g'.mono (fun b hb => by simp [hb]))).trans (g''.mono (fun b hb => by simp [hb]))))
  have k0 : (w.alloc (Obj.cells #[Value.int .i64 d, .int .i64 z, .int .u64 (v : Int), .slice ao kl kc] 33)).cell? ⟨w.heap.size, 0, none⟩ = some (.int .i64 d) := X.cell 0
  have k1 : (w.alloc (Obj.cells #[Value.int .i64 d, .int .i64 z, .int .u64 (v : Int), .slice ao kl kc] 33)).cell? ⟨w.heap.size, 1, none⟩ = some (.int .i64 z) := X.cell 1
  have k2 : (w.alloc (Obj.cells #[Value.int .i64 d, .int .i64 z, .int .u64 (v : Int), .slice ao kl kc] 33)).cell? ⟨w.heap.size, 2, none⟩ = some (.int .u64 (v : Int)) := X.cell 2
  have k3 : (w.alloc (Obj.cells #[Value.int .i64 d, .int .i64 z, .int .u64 (v : Int), .slice ao kl kc] 33)).cell? ⟨w.heap.size, 3, none⟩ = some (.slice ao kl kc) := X.cell 3
  rcases hs with hs | hs | hs | hs | hs | hs | hs | hs
  · go_enter Try.func15, Try.ntmps15
    go_wp2_with fail
    clear k0 k3 X
    generalize w.alloc (Obj.cells #[Value.int .i64 d, .int .i64 z, .int .u64 (v : Int), .slice ao kl kc] 33) = wa at *
    generalize w.heap.size = ba at *
    have HS0 : wa.drew.cell? ⟨ba, 1, none⟩ = some (.int .i64 z) ∧ wa.drew.cell? ⟨ba, 2, none⟩ = some (.int .u64 (v : Int)) := ⟨k1, k2⟩
    clear hs hmx hmr
    go_region_held3 (fun w' : World => w'.cell? ⟨ba, 1, none⟩ = some (.int .i64 z) ∧ w'.cell? ⟨ba, 2, none⟩ = some (.int .u64 (v : Int))) (first | assumption | go_keep) ((first
      | (go_at_call 17; refine (store_any a D z v _ (HDW.out _ ((Gr.refl [] wa).drew)).1 HV.out HCN.out).mono ?_; rintro e w5 ⟨rfl, d5, g5⟩; have x5 := HAR.out _ _ _ ((Gr.refl [] wa).drew) g5 d5; have s5 := x5.2; have r5 := Lib.hid x5.1; have H5 := Lib.hid (And.intro d5 g5); clear x5 d5 g5)
      | (go_at_call 44; refine (ref_store z v r5.out HCN.out HFU.out).mono ?_; rintro e w6 ⟨rfl, r6, g6⟩; have s6 := HKR.out _ _ s5 g6; have H6 := Lib.hid (And.intro r6 g6); clear r6 g6)))
    go_wp2_with fail
    go_ret
    have q := HFIN.out _ _ _ _ ((Gr.refl [] wa).drew) H5.out.2 H5.out.1 H6.out.2
    exact ⟨_, rfl, q.1, H6.out.1, q.2, opD_n _ _ _ rfl, HB.out.store z v⟩
  · go_enter Try.func15, Try.ntmps15
    go_wp2_with fail
    clear k0 k3 X
    generalize w.alloc (Obj.cells #[Value.int .i64 d, .int .i64 z, .int .u64 (v : Int), .slice ao kl kc] 33) = wa at *
    generalize w.heap.size = ba at *
    have HS0 : wa.drew.cell? ⟨ba, 1, none⟩ = some (.int .i64 z) ∧ wa.drew.cell? ⟨ba, 2, none⟩ = some (.int .u64 (v : Int)) := ⟨k1, k2⟩
    clear hs hmx hmr
    go_region_held3 (fun w' : World => w'.cell? ⟨ba, 1, none⟩ = some (.int .i64 z) ∧ w'.cell? ⟨ba, 2, none⟩ = some (.int .u64 (v : Int))) (first | assumption | go_keep) ((first
      | (go_at_call 17; refine (store_any a D z v _ (HDW.out _ ((Gr.refl [] wa).drew)).1 HV.out HCN.out).mono ?_; rintro e w5 ⟨rfl, d5, g5⟩; have x5 := HAR.out _ _ _ ((Gr.refl [] wa).drew) g5 d5; have s5 := x5.2; have r5 := Lib.hid x5.1; have H5 := Lib.hid (And.intro d5 g5); clear x5 d5 g5)
      | (go_at_call 44; refine (ref_store z v r5.out HCN.out HFU.out).mono ?_; rintro e w6 ⟨rfl, r6, g6⟩; have s6 := HKR.out _ _ s5 g6; have H6 := Lib.hid (And.intro r6 g6); clear r6 g6)))
    go_wp2_with fail
    go_ret
    have q := HFIN.out _ _ _ _ ((Gr.refl [] wa).drew) H5.out.2 H5.out.1 H6.out.2
    exact ⟨_, rfl, q.1, H6.out.1, q.2, opD_n _ _ _ rfl, HB.out.store z v⟩
  · go_enter Try.func15, Try.ntmps15
    go_wp2_with fail
    clear k0 k3 X
    generalize w.alloc (Obj.cells #[Value.int .i64 d, .int .i64 z, .int .u64 (v : Int), .slice ao kl kc] 33) = wa at *
    generalize w.heap.size = ba at *
    have HS0 : wa.drew.cell? ⟨ba, 1, none⟩ = some (.int .i64 z) ∧ wa.drew.cell? ⟨ba, 2, none⟩ = some (.int .u64 (v : Int)) := ⟨k1, k2⟩
    clear hs hmx hmr
    go_region_held3 (fun w' : World => w'.cell? ⟨ba, 1, none⟩ = some (.int .i64 z) ∧ w'.cell? ⟨ba, 2, none⟩ = some (.int .u64 (v : Int))) (first | assumption | go_keep) ((first
      | (go_at_call 18; refine (flush_any a D z _ (HDW.out _ ((Gr.refl [] wa).drew)).1 HCN.out).mono ?_; rintro e w5 ⟨rfl, d5, g5⟩; have x5 := HAR.out _ _ _ ((Gr.refl [] wa).drew) g5 d5; have s5 := x5.2; have r5 := Lib.hid x5.1; have H5 := Lib.hid (And.intro d5 g5); clear x5 d5 g5)
      | (go_at_call 45; refine (ref_flush z r5.out HCN.out HFU.out).mono ?_; rintro e w6 ⟨rfl, r6, g6⟩; have s6 := HKR.out _ _ s5 g6; have H6 := Lib.hid (And.intro r6 g6); clear r6 g6)))
    go_wp2_with fail
    go_ret
    have q := HFIN.out _ _ _ _ ((Gr.refl [] wa).drew) H5.out.2 H5.out.1 H6.out.2
    exact ⟨_, rfl, q.1, H6.out.1, q.2, opD_n _ _ _ rfl, HB.out.flush z⟩
  · go_enter Try.func15, Try.ntmps15
    go_wp2_with fail
    clear k0 k1 k2 k3 X hs hmx hmr
    generalize w.alloc (Obj.cells #[Value.int .i64 d, .int .i64 z, .int .u64 (v : Int), .slice ao kl kc] 33) = wa at *
    generalize w.heap.size = ba at *
    refine (fence_any a D _ (HDW.out _ (Gr.refl [] wa)).1 HCN.out HW.out).mono ?_
    rintro e w5 ⟨rfl, d5, g5⟩
    have x5 := HAR.out _ _ _ (Gr.refl [] wa) g5 d5
    have r5 := Lib.hid x5.1
    have H5 := Lib.hid (And.intro d5 g5)
    clear x5 d5 g5
    go_wp2_with fail
    refine (ref_fence r5.out HCN.out HFU.out HW.out).mono ?_
    rintro e w6 ⟨rfl, r6, g6⟩
    have H6 := Lib.hid (And.intro r6 g6)
    clear r6 g6
    go_wp2_with fail
    go_ret
    have q := HFIN.out _ _ _ _ (Gr.refl [] wa) H5.out.2 H5.out.1 H6.out.2
    exact ⟨_, rfl, q.1, H6.out.1, q.2, opD_n _ _ _ rfl, HB.out.fence⟩
  · by_cases hin : 0 ≤ z ∧ z < D.n
    · obtain ⟨i, rfl⟩ := Int.eq_ofNat_of_zero_le hin.1
      have hi : i < D.n := by omega
      have HI := Lib.hid hi
      go_enter Try.func15, Try.ntmps15
      go_wp2_with fail
      clear k0 k2 k3 X hs hmx hmr
      generalize w.alloc (Obj.cells #[Value.int .i64 d, .int .i64 (i : Int), .int .u64 (v : Int), .slice ao kl kc] 33) = wa at *
      generalize w.heap.size = ba at *
      refine (break_in a D i _ (HDW.out _ (Gr.refl [] wa)).1 hi).mono ?_
      rintro e w5 ⟨rfl, d5, g5⟩
      have g5 := g5.mono (cs := a.all) (fun b hb => by simp at hb; subst hb; simp [DevA.all])
      have x5 := HAR.out _ _ _ (Gr.refl [] wa) g5 d5
      have s1 := x5.2.1
      obtain ⟨R, hR, hS⟩ := x5.1
      have H5 := Lib.hid (And.intro d5 g5)
      have r2 := hR.c2
      have hib : (i : Int) < (R.n : Int) := by rw [hS.n]; omega
      have hi0 : (0 : Int) ≤ (i : Int) := by omega
      have rb := hR.badAt (i := i) (by rw [hS.n]; exact hi)
      have fb : w5.frozen? ⟨r.rb, i, none⟩ = false := hR.bad.frozen i
      have hnl : R.n ≤ 8192 := hR.hi
      have HRS := Lib.hid (And.intro hR hS)
      have hd1 : decide ((0 : Int) ≤ (i : Int)) = true := by simp
      have hd2 : decide ((i : Int) < (R.n : Int)) = true := by simpa using hib
      clear x5 d5 g5 hR hS k1 hi
      generalize R.bad i = xb at *
      obtain ⟨n, hn⟩ : ∃ n, R.n = n := ⟨_, rfl⟩
      rw [hn] at r2 hib hd2 hnl
      clear hn
      go_wp2_with fail
      go_quiet (fail)
      obtain ⟨wq, hwq⟩ : ∃ wq, wq = w5.drewN nq := ⟨_, rfl⟩
      rw [← hwq]
      have gq : Gr [] w5 wq := by rw [hwq]; exact (Gr.refl [] w5).drewN _
      have s1 : wq.cell? ⟨ba, 1, none⟩ = some (.int .i64 (i : Int)) := by rw [hwq]; exact s1
      have r2 : wq.cell? ⟨r.rd, 2, none⟩ = some (.slice (some ⟨r.rb, 0, none⟩) n n) := by rw [hwq]; exact r2
      have rb : wq.cell? ⟨r.rb, i, none⟩ = some (.bool xb) := by rw [hwq]; exact rb
      have fb : wq.frozen? ⟨r.rb, i, none⟩ = false := by rw [hwq]; exact fb
      have HQ := Lib.hid gq
      clear hwq gq
      go_wp2_with fail
      go_still_tail 7, (by kernel_rfl)
      go_wp2_with fail
      go_ret
      have g6 : Gr r.all w5 (wq.setCell ⟨r.rb, i, none⟩ (.bool true)).drew := ((HQ.out.of0 (cs := r.all)).trans ((grSet wq r.rb i (.bool true)).mono (cs := r.all) (fun b hb => by simp at hb; subst hb; simp [RefA.all]))).drew
      have q := HFIN.out _ _ _ _ (Gr.refl [] wa) H5.out.2 H5.out.1 g6
      refine ⟨_, rfl, q.1, ⟨_, ((HRS.out.1.gr0 HQ.out).setBad i true).gr0 ((Gr.refl [] _).drew), ?_⟩, q.2, rfl, HB.out.mono⟩
      have hS := HRS.out.2
      exact ⟨hS.n, hS.wear, (fun l hl => by show (if l = i then true else R.bad l) = (if l = i then true else D.bad l); rw [hS.bad l hl]), hS.fuse, hS.off, hS.cnt, hS.med, hS.buf⟩
    · have HIN := Lib.hid hin
      clear hin
      go_enter Try.func15, Try.ntmps15
      go_wp2_with fail
      clear k0 k2 k3 X hs hmx hmr
      generalize w.alloc (Obj.cells #[Value.int .i64 d, .int .i64 z, .int .u64 (v : Int), .slice ao kl kc] 33) = wa at *
      generalize w.heap.size = ba at *
      refine (break_out a D z _ (HDW.out _ (Gr.refl [] wa)).1 HIN.out).mono ?_
      rintro e w5 ⟨rfl, rfl⟩
      obtain ⟨R, hR, hS⟩ := (HDW.out _ (Gr.refl [] wa)).2
      have r2 := hR.c2
      have HIN2 := Lib.hid (show ¬ (0 ≤ z ∧ z < R.n) by rw [hS.n]; exact HIN.out)
      clear hR hS
      generalize R.n = n at *
      by_cases h0 : 0 ≤ z
      · have hd1 : decide ((0 : Int) ≤ z) = true := by simpa using h0
        have hd2 : decide (z < (n : Int)) = false := by have := HIN2.out; simp; omega
        clear h0
        go_wp2_with fail
        go_quiet (fail)
        go_wp2_with fail
        go_ret
        have q := HDW.out _ ((Gr.refl [] wa).drewN nq)
        exact ⟨D, rfl, q.1, q.2, (HG.out.drewN nq).of0, rfl, HB.out.mono⟩
      · have hd1 : decide ((0 : Int) ≤ z) = false := by simpa using h0
        clear h0
        go_wp2_with fail
        go_quiet (fail)
        go_wp2_with fail
        go_ret
        have q := HDW.out _ ((Gr.refl [] wa).drewN nq)
        exact ⟨D, rfl, q.1, q.2, (HG.out.drewN nq).of0, rfl, HB.out.mono⟩
  · go_enter Try.func15, Try.ntmps15
    go_wp2_with fail
    clear k0 k2 k3 X hs
    generalize w.alloc (Obj.cells #[Value.int .i64 d, .int .i64 z, .int .u64 (v : Int), .slice ao kl kc] 33) = wa at *
    generalize w.heap.size = ba at *
    refine (fuse_any a D z hz.2 _ (HDW.out _ (Gr.refl [] wa)).1).mono ?_
    rintro e w5 ⟨rfl, d5, g5⟩
    have g5 := g5.mono (cs := a.all) (fun b hb => by simp at hb; subst hb; simp [DevA.all])
    have x5 := HAR.out _ _ _ (Gr.refl [] wa) g5 d5
    have s1 := x5.2.1
    obtain ⟨R, hR, hS⟩ := x5.1
    have H5 := Lib.hid (And.intro d5 g5)
    have r3 := hR.c3
    have f3 := hR.fr 3
    have HRS := Lib.hid (And.intro hR hS)
    clear x5 d5 g5 hR hS k1
    generalize R.fuse = xf at *
    go_wp2_with fail
    go_ret
    have g6 : Gr r.all w5 (w5.setCell ⟨r.rd, 3, none⟩ (.int .i64 (mx z))) := (grSet w5 r.rd 3 (.int .i64 (mx z))).mono (cs := r.all) (fun b hb => by simp at hb; subst hb; simp [RefA.all])
    have q := HFIN.out _ _ _ _ (Gr.refl [] wa) H5.out.2 H5.out.1 g6
    refine ⟨_, rfl, q.1, ⟨_, HRS.out.1.setFuse (mx z), ?_⟩, q.2, rfl, HB.out.mono⟩
    have hS := HRS.out.2
    exact ⟨hS.n, hS.wear, hS.bad, rfl, hS.off, hS.cnt, hS.med, hS.buf⟩
  · have HKN := Lib.hid hkn
    clear hkn
    cases ao with
    | none =>
      obtain rfl : kc = 0 := HKN.out rfl
      obtain rfl : kl = 0 := by omega
      have hmn := minIsR Try.prog 0 0 100 100 rfl rfl
      go_enter Try.func15, Try.ntmps15
      go_wp2_with fail
      clear k0 k1 k2 k3 X hs hmx hmr hmn
      generalize w.alloc (Obj.cells #[Value.int .i64 d, .int .i64 z, .int .u64 (v : Int), .slice none 0 0] 33) = wa at *
      generalize hba : w.heap.size = ba at *
      have HKI := Lib.hid (show ∀ W W', Gr [] wa W → Gr a.all W W' → KeepIs W' (.slice none 0 0) 0 (fun _ => false) from fun W W' g g' => ⟨none, 0, rfl, (fun j hj => by omega), (fun _ _ => rfl), Nat.zero_le _⟩)
      refine (boot_any a D (.slice none 0 0) 0 (fun _ => false) _ (HDW.out _ (Gr.refl [] wa)).1 (HKI.out _ _ (Gr.refl [] wa) (Gr.refl _ _)) HW.out (by have := HB.out.1; omega)).mono ?_
      rintro e w5 ⟨rfl, ⟨L, hL, d5⟩, g5⟩
      have x5 := HAR.out _ _ _ (Gr.refl [] wa) g5 d5
      have HL := Lib.hid (ref_boot (.slice none 0 0) 0 (fun _ => false) L x5.1 (HKI.out _ _ (Gr.refl [] wa) g5) HW.out HSU.out hL)
      have H5 := Lib.hid (And.intro d5 g5)
      clear x5 d5 g5 hL
      go_wp2_with fail
      refine HL.out.mono ?_
      rintro e w6 ⟨rfl, r6, g6⟩
      have H6 := Lib.hid (And.intro r6 g6)
      clear r6 g6
      go_wp2_with fail
      go_ret
      have q := HFIN.out _ _ _ _ (Gr.refl [] wa) H5.out.2 H5.out.1 H6.out.2
      exact ⟨_, rfl, q.1, H6.out.1, q.2, rfl, HB.out.boot L _⟩
    | some ad =>
      by_cases h0 : kl = 0
      · subst h0
        have hmn := minIsR Try.prog 0 0 100 100 rfl rfl
        clear HKN
        go_enter Try.func15, Try.ntmps15
        go_wp2_with fail
        clear k0 k1 k2 k3 X hs hmx hmr hmn
        generalize w.alloc (Obj.cells #[Value.int .i64 d, .int .i64 z, .int .u64 (v : Int), .slice (some ad) 0 kc] 33) = wa at *
        generalize hba : w.heap.size = ba at *
        have HKI := Lib.hid (show ∀ W W', Gr [] wa W → Gr a.all W W' → KeepIs W' (.slice (some ad) 0 kc) 0 (fun _ => false) from fun W W' g g' => ⟨some ad, kc, rfl, (fun j hj => by omega), (fun _ _ => rfl), Nat.zero_le _⟩)
        refine (boot_any a D (.slice (some ad) 0 kc) 0 (fun _ => false) _ (HDW.out _ (Gr.refl [] wa)).1 (HKI.out _ _ (Gr.refl [] wa) (Gr.refl _ _)) HW.out (by have := HB.out.1; omega)).mono ?_
        rintro e w5 ⟨rfl, ⟨L, hL, d5⟩, g5⟩
        have x5 := HAR.out _ _ _ (Gr.refl [] wa) g5 d5
        have HL := Lib.hid (ref_boot (.slice (some ad) 0 kc) 0 (fun _ => false) L x5.1 (HKI.out _ _ (Gr.refl [] wa) g5) HW.out HSU.out hL)
        have H5 := Lib.hid (And.intro d5 g5)
        clear x5 d5 g5 hL
        go_wp2_with fail
        refine HL.out.mono ?_
        rintro e w6 ⟨rfl, r6, g6⟩
        have H6 := Lib.hid (And.intro r6 g6)
        clear r6 g6
        go_wp2_with fail
        go_ret
        have q := HFIN.out _ _ _ _ (Gr.refl [] wa) H5.out.2 H5.out.1 H6.out.2
        exact ⟨_, rfl, q.1, H6.out.1, q.2, rfl, HB.out.boot L _⟩
      · obtain ⟨b, o, hbo, _⟩ := HK.out 0 (by omega)
        obtain rfl := Option.some.inj hbo
        obtain ⟨m, hm⟩ : ∃ m, m = min kl 100 := ⟨_, rfl⟩
        have hmn := minIsR Try.prog kl m 100 100 rfl hm
        have hm1 : m ≤ kl := by omega
        have hm2 : m ≤ 100 := by omega
        clear hm HKN hbo h0
        go_enter Try.func15, Try.ntmps15
        go_wp2_with fail
        clear k0 k1 k2 k3 X hs hmx hmr hmn
        generalize w.alloc (Obj.cells #[Value.int .i64 d, .int .i64 z, .int .u64 (v : Int), .slice (some ⟨b, o, none⟩) kl kc] 33) = wa at *
        generalize hba : w.heap.size = ba at *
        have HKI := Lib.hid (show ∀ W W', Gr [] wa W → Gr a.all W W' → KeepIs W' (.slice (some ⟨b, o, none⟩) m kc) m (fun j => if j < m then kp j else false) from fun W W' g g' => ⟨some ⟨b, o, none⟩, kc, rfl, (fun j hj => by
          obtain ⟨b', o', e, hb1, hb2, hb3⟩ := HK.out j (by omega)
          obtain ⟨rfl, rfl⟩ : b = b' ∧ o = o' := by cases e; exact ⟨rfl, rfl⟩
          have hbW : b < W.heap.size := by have h1 := g.size; have h2 := HG.out.size; omega
          refine ⟨b, o, rfl, Nat.lt_of_lt_of_le hbW g'.size, ?_⟩
          rw [cell_gr g' hbW hb2, g.cell0 (by have := HG.out.size; omega), HG.out.cell0 (by omega), hb3]
          dsimp only
          rw [if_pos hj]), (fun j hj => if_neg (by omega)), by unfold maxLen; omega⟩)
        refine (boot_any a D (.slice (some ⟨b, o, none⟩) m kc) m (fun j => if j < m then kp j else false) _ (HDW.out _ (Gr.refl [] wa)).1 (HKI.out _ _ (Gr.refl [] wa) (Gr.refl _ _)) HW.out (by have := HB.out.1; omega)).mono ?_
        rintro e w5 ⟨rfl, ⟨L, hL, d5⟩, g5⟩
        have x5 := HAR.out _ _ _ (Gr.refl [] wa) g5 d5
        have HL := Lib.hid (ref_boot (.slice (some ⟨b, o, none⟩) m kc) m (fun j => if j < m then kp j else false) L x5.1 (HKI.out _ _ (Gr.refl [] wa) g5) HW.out HSU.out hL)
        have H5 := Lib.hid (And.intro d5 g5)
        clear x5 d5 g5 hL
        go_wp2_with fail
        refine HL.out.mono ?_
        rintro e w6 ⟨rfl, r6, g6⟩
        have H6 := Lib.hid (And.intro r6 g6)
        clear r6 g6
        go_wp2_with fail
        go_ret
        have q := HFIN.out _ _ _ _ (Gr.refl [] wa) H5.out.2 H5.out.1 H6.out.2
        exact ⟨_, rfl, q.1, H6.out.1, q.2, rfl, HB.out.boot L _⟩
  · go_enter Try.func15, Try.ntmps15
    go_wp2_with fail
    clear k0 k2 k3 X hs hmx hmr
    generalize w.alloc (Obj.cells #[Value.int .i64 d, .int .i64 z, .int .u64 (v : Int), .slice ao kl kc] 33) = wa at *
    generalize w.heap.size = ba at *
    refine (dev_load a z (HDW.out _ (Gr.refl [] wa)).1).mono ?_
    rintro e w5 ⟨rfl, g5⟩
    have q5 := HDW.out _ g5
    have s1 : w5.cell? ⟨ba, 1, none⟩ = some (.int .i64 z) := (g5.cell0 HXL.out).trans k1
    have H5 := Lib.hid (And.intro q5 g5)
    have HL := Lib.hid (ref_load z q5.2)
    clear q5 g5 k1
    obtain ⟨p1, hp1⟩ : ∃ p, (loadP D z).1 = p := ⟨_, rfl⟩
    obtain ⟨p2, hp2⟩ : ∃ p, (loadP D z).2 = p := ⟨_, rfl⟩
    rw [hp1, hp2] at HL ⊢
    clear hp1 hp2
    go_wp2_with fail
    refine HL.out.mono ?_
    rintro e w6 ⟨rfl, rfl⟩
    go_wp2_with fail
    go_ret
    exact ⟨D, rfl, H5.out.1.1, H5.out.1.2, (HG.out.trans H5.out.2).of0, rfl, HB.out.mono⟩

end Go.Proofs.Ytphaaebbofgdnaa
