/-
  Layer 3's laws: same.
-/
import Derived.Test.YtphaaebbofgdnaaPmRf
import Derived.Deep.QuietTactic
import Derived.BigQuiet
namespace Go.Proofs.Ytphaaebbofgdnaa
open Go.RowKit

theorem calls_flipR {P : Program} {f : FuncId} {args : Array Value} {w : World} {v : Value} (h : Calls P f args w fun e w' => e = .returned v ∧ w = w') : Calls P f args w fun e w' => e = .returned v ∧ w' = w := h.mono fun _ _ q => ⟨q.1, q.2.symm⟩
/-- A row of words, however it lies. -/
theorem row_shape {w0 w1 : World} {v : Value} {L : List Nat} (h : w1.ownsRow w0.heap.size 3 1 v L.length (L.map iW)) :
    ∃ po pc, v = .slice po L.length pc ∧ ∀ (k x : Nat), L[k]? = some x → ∃ g, po = some ⟨g, 0, none⟩ ∧ g < w1.heap.size ∧ w1.cell? ⟨g, k, none⟩ = some (.int .i64 (x : Int)) := by
  have hcells := fun g (hg : v.ownBlock = some g) => h.cells hg
  rcases h.2 with ⟨rfl, h0⟩ | ⟨g, cap, cur, rfl, hg, hh, _⟩
  · exact ⟨none, 0, by rw [h0], fun k x hk => by have := (List.getElem?_eq_some_iff.1 hk).1; omega⟩
  · refine ⟨some ⟨g, 0, none⟩, cap, rfl, fun k x hk => ⟨g, rfl, (Array.getElem?_eq_some_iff.1 hh).1, ?_⟩⟩
    have := hcells g rfl k (iW x) (by rw [List.getElem?_map, hk]; rfl)
    rw [addp] at this
    exact this

set_option maxRecDepth 100000 in
set_option maxHeartbeats 8000000 in
theorem same_any (a : DevA) (r : RefA) (D : DevS) (w : World) (h : DevIs w a D) (hr : RefIs w r D) (hc : D.cnt ≤ 17592186044416) :
    Calls Try.prog 16 #[.pointer (some ⟨a.bd, 0, none⟩), .pointer (some ⟨r.rd, 0, none⟩)] w fun e w' => e = .returned (.bool true) ∧ Gr [] w w' := by
  obtain ⟨R, hR, hS⟩ := hr
  have hn := h.ok.hi
  obtain ⟨n, hn2⟩ : ∃ n, n = R.n := ⟨_, rfl⟩
  have hn3 : n = D.n := by rw [hn2, hS.n]
  rw [← hn3] at hn
  have HD := Lib.hid h
  have HR := Lib.hid hR
  have HS := Lib.hid hS
  have HC := Lib.hid hc
  have HN2 := Lib.hid hn2
  have HN3 := Lib.hid hn3
  have c0 := hR.c0
  rw [← hn2] at c0
  clear h hR hS hc hn2 hn3
  go_enter Try.func16, Try.ntmps16
  go_wp2_with fail
  go_loopw [16] (fun z wr => ∃ i : Nat, i ≤ 8 * n ∧ z = .int .i64 (i : Int) ∧ Gr [] w wr) (fun z _ => 8 * n - (intOf z).toNat)
  case atStart => exact ⟨0, by omega, rfl, Gr.refl _ _⟩
  case round =>
    clear c0
    obtain ⟨i, hi, rfl, g⟩ := hrel
    by_cases hlt : i < 8 * n
    · have hib : (i : Int) < 8 * (n : Int) := by omega
      have hi0 : (0 : Int) ≤ (i : Int) := by omega
      have hd : decide ((i : Int) < 8 * (n : Int)) = true := by simp; omega
      have hiR : i < 8 * R.n := by rw [← HN2.out]; exact hlt
      have m0 := (HR.out.gr0 g).wm hiR
      have m1 := (HR.out.gr0 g).wt hiR
      have m2 := (HR.out.gr0 g).wv hiR
      have m3 := (HR.out.gr0 g).wf hiR
      rw [HS.out.med i (by rw [← HN3.out]; exact hlt)] at m0
      obtain ⟨M, hM⟩ : ∃ M, D.med i = M := ⟨_, rfl⟩
      rw [hM] at m0
      generalize (R.ws i).t = xt at *
      generalize (R.ws i).v = xv at *
      generalize (R.ws i).f = xf at *
      have HG := Lib.hid (g.alloc (.cells #[.int .u64 (M : Int), .bool xt, .int .u64 (xv : Int), .bool xf] 95))
      have X := Holds.new wr #[.int .u64 (M : Int), .bool xt, .int .u64 (xv : Int), .bool xf] 95
      have X0 := X.cell 0
      have HZ := Lib.hid (show ∀ k : Nat, Calls Try.prog 23 #[.pointer (some ⟨a.bd, 0, none⟩), .int .i64 (i : Int)] ((wr.alloc (.cells #[.int .u64 (M : Int), .bool xt, .int .u64 (xv : Int), .bool xf] 95)).drewN k) fun e w' => e = .returned (.int .u64 (M : Int)) ∧ w' = (wr.alloc (.cells #[.int .u64 (M : Int), .bool xt, .int .u64 (xv : Int), .bool xf] 95)).drewN k from fun k => by
        have q := calls_flipR (media_in a D i _ (HD.out.gr0 (HG.out.drewN k)) (by rw [← HN3.out]; exact hlt))
        rw [hM] at q
        exact q)
      clear X g hM
      go_wp2_with fail
      clear m0 m1 m2 m3
      generalize wr.alloc (.cells #[.int .u64 (M : Int), .bool xt, .int .u64 (xv : Int), .bool xf] 95) = wb at *
      generalize wr.heap.size = bx at *
      go_quiet ((first
        | (go_at_call 23; exact Calls.quiet_of_same (HZ.out _))))
      go_wp2_with fail
      go_roundw
      case rel => exact ⟨i + 1, by omega, by go_num, HG.out.drewN _⟩
      case measure => simp [intOf]; omega
    · obtain rfl : i = 8 * n := by omega
      have hd : decide (((8 * n : Nat) : Int) < 8 * (n : Int)) = false := by simp
      have k1 := (HR.out.gr0 g).c1
      rw [← HN2.out] at k1
      have HG := Lib.hid g
      clear g
      go_wp2_with fail
      clear k1
      go_loopw [33] (fun z wr => ∃ i : Nat, i ≤ n ∧ z = .int .i64 (i : Int) ∧ Gr [] w wr) (fun z _ => n - (intOf z).toNat)
      case atStart => exact ⟨0, by omega, rfl, HG.out⟩
      case round =>
        clear HG
        obtain ⟨i, hi, rfl, g⟩ := hrel
        by_cases hlt : i < n
        · have hib : (i : Int) < (n : Int) := by omega
          have hi0 : (0 : Int) ≤ (i : Int) := by omega
          have hd : decide ((i : Int) < (n : Int)) = true := by simp; omega
          have hiR : i < R.n := by rw [← HN2.out]; exact hlt
          have k1 := (HR.out.gr0 g).c1
          have k2 := (HR.out.gr0 g).c2
          rw [← HN2.out] at k1 k2
          have m0 := (HR.out.gr0 g).wearAt hiR
          have m1 := (HR.out.gr0 g).badAt hiR
          rw [HS.out.wear i (by rw [← HN3.out]; exact hlt)] at m0
          rw [HS.out.bad i (by rw [← HN3.out]; exact hlt)] at m1
          obtain ⟨X, hX⟩ : ∃ X, D.wear i = X := ⟨_, rfl⟩
          obtain ⟨Y, hY⟩ : ∃ Y, D.bad i = Y := ⟨_, rfl⟩
          rw [hX] at m0
          rw [hY] at m1
          have HZ := Lib.hid (show ∀ k : Nat, Calls Try.prog 28 #[.pointer (some ⟨a.bd, 0, none⟩), .int .i64 (i : Int)] (wr.drewN k) fun e w' => e = .returned (.int .i64 X) ∧ w' = wr.drewN k from fun k => by
            have q := calls_flipR (wear_in a D i _ (HD.out.gr0 (g.drewN k)) (by rw [← HN3.out]; exact hlt))
            rw [hX] at q
            exact q)
          have HB := Lib.hid (show ∀ k : Nat, Calls Try.prog 29 #[.pointer (some ⟨a.bd, 0, none⟩), .int .i64 (i : Int)] (wr.drewN k) fun e w' => e = .returned (.bool Y) ∧ w' = wr.drewN k from fun k => by
            have q := calls_flipR (badB_in a D i _ (HD.out.gr0 (g.drewN k)) (by rw [← HN3.out]; exact hlt))
            rw [hY] at q
            exact q)
          have HG := Lib.hid g
          clear g hX hY
          go_wp2_with fail
          go_quiet ((first
            | (go_at_call 28; exact Calls.quiet_of_same (HZ.out _))
            | (go_at_call 29; exact Calls.quiet_of_same (HB.out _))))
          go_wp2_with fail
          go_roundw
          case rel => exact ⟨i + 1, by omega, by go_num, HG.out.drewN _⟩
          case measure => simp [intOf]; omega
        · obtain rfl : i = n := by omega
          have hd : decide ((i : Int) < (i : Int)) = false := by simp
          have HP := Lib.hid (pending_any a D wr (HD.out.gr0 g) HC.out)
          have HG := Lib.hid g
          clear g
          go_wp2_with fail
          refine HP.out.mono ?_
          rintro e w1 ⟨v1, L, rfl, hL, own1, _, g1⟩
          have g1 := HG.out.trans g1
          have HP := Lib.hid (ref_pending (r := r) (w := w1) ⟨R, HR.out.gr0 g1, HS.out⟩ HD.out.ok.sup hL)
          have HO1 := Lib.hid own1
          have HG1 := Lib.hid g1
          have HLL := Lib.hid (show L.length ≤ 65536 by
            have h1 := sorted_len (8 * D.n) L hL.1 (fun x hx => by have := (HD.out.ok.sup _ ((hL.2 x).1 hx)).2; omega)
            have := HD.out.ok.hi
            omega)
          clear own1 g1 HG hL
          go_wp2_with fail
          refine HP.out.mono ?_
          rintro e w2 ⟨v2, rfl, own2, q2⟩
          obtain ⟨po1, pc1, rfl, hc1⟩ := row_shape (own_gr0 HO1.out q2)
          obtain ⟨po2, pc2, rfl, hc2⟩ := row_shape own2
          have g2 := HG1.out.trans q2
          clear own2 q2 HO1 HG1 HP
          obtain ⟨m, hm⟩ : ∃ m, m = L.length := ⟨_, rfl⟩
          have hm2 : m ≤ 65536 := by rw [hm]; exact HLL.out
          rw [← hm]
          have HM := Lib.hid hm
          clear hm
          have k1 := (HR.out.gr0 g2).c1
          have k4 := (HR.out.gr0 g2).c4
          have k5 := (HR.out.gr0 g2).c5
          rw [← HN2.out] at k1
          rw [HS.out.off] at k4
          rw [HS.out.cnt] at k5
          obtain ⟨X, hX⟩ : ∃ X, D.off = X := ⟨_, rfl⟩
          obtain ⟨Y, hY⟩ : ∃ Y, D.cnt = Y := ⟨_, rfl⟩
          rw [hX] at k4
          rw [hY] at k5
          have HZ := Lib.hid (show ∀ k : Nat, Calls Try.prog 27 #[.pointer (some ⟨a.bd, 0, none⟩)] (w2.drewN k) fun e w' => e = .returned (.bool X) ∧ w' = w2.drewN k from fun k => by
            have q := calls_flipR (off_any a D _ (HD.out.gr0 (g2.drewN k)))
            rw [hX] at q
            exact q)
          have HB := Lib.hid (show ∀ k : Nat, Calls Try.prog 26 #[.pointer (some ⟨a.bd, 0, none⟩)] (w2.drewN k) fun e w' => e = .returned (.int .i64 (Y : Int)) ∧ w' = w2.drewN k from fun k => by
            have q := calls_flipR (count_any a D _ (HD.out.gr0 (g2.drewN k)))
            rw [hY] at q
            exact q)
          have HN := Lib.hid (show ∀ k : Nat, Calls Try.prog 43 #[.pointer (some ⟨a.bd, 0, none⟩)] (w2.drewN k) fun e w' => e = .returned (.int .i64 (i : Int)) ∧ w' = w2.drewN k from fun k => by
            have q := calls_flipR (lines_any a D _ (HD.out.gr0 (g2.drewN k)))
            rw [← HN3.out] at q
            exact q)
          have HG := Lib.hid g2
          have HC1 := Lib.hid hc1
          have HC2 := Lib.hid hc2
          clear g2 hX hY hc1 hc2
          go_wp2_with fail
          go_quiet ((first
            | (go_at_call 27; exact Calls.quiet_of_same (HZ.out _))
            | (go_at_call 26; exact Calls.quiet_of_same (HB.out _))
            | (go_at_call 43; exact Calls.quiet_of_same (HN.out _))))
          clear k1 k4 k5
          go_wp2_with fail
          go_loopw [100] (fun z wr => ∃ i : Nat, i ≤ m ∧ z = .int .i64 (i : Int) ∧ Gr [] w2 wr) (fun z _ => m - (intOf z).toNat)
          case atStart => exact ⟨0, by omega, rfl, (Gr.refl [] w2).drewN _⟩
          case round =>
            obtain ⟨j, hj, rfl, g⟩ := hrel
            by_cases hjm : j < m
            · have hjb : (j : Int) < (m : Int) := by omega
              have hj0 : (0 : Int) ≤ (j : Int) := by omega
              have hd : decide ((j : Int) < (m : Int)) = true := by simp; omega
              obtain ⟨x, hx⟩ : ∃ x, L[j]? = some x := ⟨L[j]'(by have := HM.out; omega), List.getElem?_eq_getElem _⟩
              obtain ⟨b1, rfl, hb1, e1⟩ := HC1.out j x hx
              obtain ⟨b2, rfl, hb2, e2⟩ := HC2.out j x hx
              have e1 : wr.cell? ⟨b1, j, none⟩ = some (.int .i64 (x : Int)) := (g.cell0 hb1).trans e1
              have e2 : wr.cell? ⟨b2, j, none⟩ = some (.int .i64 (x : Int)) := (g.cell0 hb2).trans e2
              have HGJ := Lib.hid g
              clear g hx hb1 hb2
              go_wp2_with fail
              go_quiet (fail)
              go_wp2_with fail
              go_roundw
              case rel => exact ⟨j + 1, by omega, by go_num, HGJ.out.drewN _⟩
              case measure => simp [intOf]; omega
            · obtain rfl : j = m := by omega
              have hd : decide ((j : Int) < (j : Int)) = false := by simp
              have HGJ := Lib.hid g
              clear g
              go_wp2_with fail
              go_ret
              exact ⟨rfl, HG.out.trans HGJ.out⟩

end Go.Proofs.Ytphaaebbofgdnaa
