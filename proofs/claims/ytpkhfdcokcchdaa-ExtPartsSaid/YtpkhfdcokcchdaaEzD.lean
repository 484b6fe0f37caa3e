/-
  Layer 15: ExtParts.
-/
import Derived.Test.YtpkhfdcokcchdaaMgF
namespace Go.Proofs.Ytpkhfdcokcchdaa
open Go.RowKit

set_option maxHeartbeats 8000000 in
set_option maxRecDepth 100000 in
theorem eparts_any (v : Value) (w : World) (h : SlN 2 w v) :
    Calls Try.prog 13 #[v] w fun e w' => e = .returned (.bool true) ∧ Gr [] w w' := by
  obtain ⟨l0, HTA⟩ := etame_any h
  obtain ⟨T, hT⟩ : ∃ T, T = tamed l0 := ⟨_, rfl⟩
  have HT := Lib.hid (show Right15 T ∧ (∀ e ∈ T, -1 ≤ e.1 ∧ e.1 ≤ 199 ∧ 1 ≤ e.2 ∧ e.2 ≤ 180) ∧ sumZ T ≤ 180 ∧ T.length ≤ 20 by rw [hT]; exact tamed_ok l0)
  rw [← hT] at HTA
  have HTA := Lib.hid HTA
  obtain ⟨L, hL⟩ : ∃ L, L = T.length := ⟨_, rfl⟩
  have HL := Lib.hid hL
  have hL20 : L ≤ 20 := by rw [hL]; exact HT.out.2.2.2
  clear h hT hL
  go_enter Try.func13, Try.ntmps13
  go_wp2_with fail
  with_reducible refine HTA.out.mono ?_
  rintro e w1 ⟨v1, rfl, o1, g1⟩
  have HS1 := Lib.hid (own_sl2 o1)
  obtain ⟨aT, cT, rfl, -⟩ := id HS1.out
  rw [← HL.out] at HS1 ⊢
  have H1 := Lib.hid (And.intro HS1.out g1)
  clear o1 g1 HTA HS1
  go_wp2_with fail
  go_loopw [4, 5, 20] (fun va vb i wr => ∃ k : Nat, k ≤ L ∧ i = .int .i64 k ∧ Sl2 wr va (T.take k) ∧ Sl2 wr vb (T.take k) ∧ Gr [] w1 wr) (fun _ _ i _ => L - (intOf i).toNat)
  case atStart => exact ⟨0, by omega, rfl, sl2_nil0 _, sl2_nil0 _, Gr.refl _ _⟩
  case round =>
    obtain ⟨k, hk, rfl, sa, sb, G⟩ := hrel
    obtain ⟨aA, cA, rfl, -⟩ := id sa
    obtain ⟨aB, cB, rfl, -⟩ := id sb
    by_cases hkL : k < L
    · have hkL2 : (k : Int) < (L : Int) := by omega
      have hlk : (T.take k).length = k := by rw [List.length_take, ← HL.out]; omega
      rw [hlk] at sa sb ⊢
      obtain ⟨⟨x1, x2⟩, hx⟩ : ∃ x, T[k]? = some x := ⟨_, List.getElem?_eq_getElem (by have := HL.out; omega)⟩
      have hxb := HT.out.2.1 _ (List.mem_of_getElem? hx)
      simp only at hxb
      obtain ⟨n, rfl⟩ : ∃ n : Nat, x2 = (n : Int) := ⟨x2.toNat, by omega⟩
      obtain ⟨bk, o, hao, hbk, c1, c2⟩ := (sl2_parts H1.out.1).2.1 k _ hx
      subst hao
      have y0 : wr.cell? ⟨bk, o + k * 2, none⟩ = some (.int .i64 x1) := (G.cell0 hbk).trans c1
      have y1 : wr.cell? ⟨bk, o + k * 2 + 1, none⟩ = some (.int .i64 n) := (G.cell0 hbk).trans c2
      have gA := (Gr.refl [] wr).alloc (Obj.cells #[.int .i64 x1, .int .i64 n] 44)
      have HA := Lib.hid (And.intro (sa.gr0 gA) (And.intro (sb.gr0 gA) (And.intro (Holds.new wr #[.int .i64 x1, .int .i64 n] 44) (G.next0 gA))))
      have z0 := (Holds.new wr #[.int .i64 x1, .int .i64 n] 44).cell 0
      have z1 := (Holds.new wr #[.int .i64 x1, .int .i64 n] 44).cell 1
      have HAP := Lib.hid (app_take HT.out.1 hx)
      have HAS := Lib.hid (fun j (hj : j < n) => app_step HT.out.1 hx hj (by omega))
      have HAZ := Lib.hid (stepB_all hx (by omega))
      clear c1 c2 hx sa sb G gA hbk
      go_wp2_with fail
      generalize wr.alloc (Obj.cells #[.int .i64 x1, .int .i64 n] 44) = w2 at *
      generalize wr.heap.size = bx at *
      refine (eapp_O (T.take k) k aA cA x1 n w2 HA.out.1).mono ?_
      rw [HAP.out]
      rintro e w3 ⟨vA, rfl, sA, g3⟩
      obtain ⟨aA2, cA2, rfl, -⟩ := id sA
      have HB := Lib.hid (And.intro sA (And.intro (HA.out.2.1.gr0 g3) (And.intro (HA.out.2.2.1.gr0 g3) (HA.out.2.2.2.next0 g3))))
      clear sA g3 z0 z1 HA
      have z1 := HB.out.2.2.1.cell 1
      go_wp2_with fail
      go_loopw [5, 46] (fun vb i wr => ∃ j : Nat, j ≤ n ∧ i = .int .i64 j ∧ Sl2 wr vb (stepB T k x1 j) ∧ Gr [] w3 wr) (fun _ i _ => n - (intOf i).toNat)
      case atStart => exact ⟨0, by omega, rfl, by rw [stepB_zero]; have := HB.out.2.1; exact this, Gr.refl _ _⟩
      case round =>
        obtain ⟨j, hj, rfl, sb, G⟩ := hrel
        by_cases hjn : j < n
        · have hjn2 : (j : Int) < (n : Int) := by omega
          obtain ⟨aB2, cB2, rfl, -⟩ := id sb
          have z0 := (HB.out.2.2.1.gr0 G).cell 0
          have HC := Lib.hid (And.intro sb G)
          have HAJ := Lib.hid (HAS.out j hjn)
          have hw : IntKind.i64.wrap (x1 + (j : Int)) = x1 + (j : Int) := IntWalk.i64_in _ (by omega)
          clear sb G z1
          by_cases hx1 : x1 = -1
          · subst hx1
            rw [if_pos rfl] at HAJ
            obtain ⟨q, hq⟩ : ∃ q, q = -1 + (j : Int) := ⟨_, rfl⟩
            rw [← hq] at hw
            have hq2 : -1 + (j : Int) = q := hq.symm
            clear hq
            go_wp2_with fail
            refine (eapp_O _ _ aB2 cB2 (-1) 1 wr HC.out.1).mono ?_
            rw [HAJ.out]
            rintro e w4 ⟨vB, rfl, sB, g4⟩
            obtain ⟨aB3, cB3, rfl, -⟩ := id sB
            have HD := Lib.hid (And.intro sB (HC.out.2.next0 g4))
            clear sB g4
            go_wp2_with fail
            go_roundw
            case rel => exact ⟨j + 1, by omega, by go_num, HD.out.1, HD.out.2⟩
            case measure => simp [intOf]; omega
          · rw [if_neg hx1] at HAJ
            have hd : (x1 == -1) = false := by simp [hx1]
            go_wp2_with fail
            refine (eapp_O _ _ aB2 cB2 (x1 + (j : Int)) 1 wr HC.out.1).mono ?_
            rw [HAJ.out]
            rintro e w4 ⟨vB, rfl, sB, g4⟩
            obtain ⟨aB3, cB3, rfl, -⟩ := id sB
            have HD := Lib.hid (And.intro sB (HC.out.2.next0 g4))
            clear sB g4
            go_wp2_with fail
            go_roundw
            case rel => exact ⟨j + 1, by omega, by go_num, HD.out.1, HD.out.2⟩
            case measure => simp [intOf]; omega
        · obtain rfl : j = n := by omega
          rw [HAZ.out] at sb
          have HE := Lib.hid (And.intro (HB.out.1.gr0 G) (And.intro sb (HB.out.2.2.2.next0 G)))
          clear sb G
          go_wp2_with fail
          go_roundw
          case rel =>
            refine ⟨k + 1, by omega, by go_num, ?_, HE.out.2.1, HE.out.2.2⟩
            rw [← List.length_take]
            exact HE.out.1
          case measure => simp [intOf]; omega
    · obtain rfl : k = L := by omega
      have ht : T.take k = T := by rw [HL.out]; exact List.take_length
      rw [ht, ← HL.out] at sa sb
      rw [ht, ← HL.out]
      obtain ⟨S, hS⟩ : ∃ S : ByteArray, S.data.toList = bytP T := ⟨⟨(bytP T).toArray⟩, rfl⟩
      have HS := Lib.hid hS
      have H2 := Lib.hid (And.intro sa (And.intro sb (And.intro (H1.out.1.gr0 G) (H1.out.2.next0 G))))
      have HTX := Lib.hid (etext_yes T k S aA cA wr (sl2_parts sa).2.1 HL.out HT.out.1 hS)
      have HPA := Lib.hid (fun W => eparse_of T S W HT.out.1 hS)
      clear sa sb G hS
      go_wp2_with fail
      with_reducible refine HTX.out.mono ?_
      rintro e w3 ⟨rfl, g3⟩
      have H3 := Lib.hid (And.intro (H2.out.1.gr0 g3) (And.intro (H2.out.2.1.gr0 g3) (And.intro (H2.out.2.2.1.gr0 g3) (H2.out.2.2.2.next0 g3))))
      clear g3 H2
      go_wp2_with fail
      with_reducible refine (HPA.out _).mono ?_
      rintro e w4 ⟨aC, cC, rfl, sC, g4⟩
      have H4 := Lib.hid (And.intro (H3.out.1.gr0 g4) (And.intro (H3.out.2.1.gr0 g4) (And.intro (H3.out.2.2.1.gr0 g4) (And.intro sC (H3.out.2.2.2.next0 g4)))))
      clear g4 H3 sC
      go_wp2_with fail
      with_reducible refine (ewakes15 w4).mono ?_
      rintro e w5 ⟨rfl, g5⟩
      have H5 := Lib.hid (And.intro (H4.out.1.gr0 g5) (And.intro (H4.out.2.1.gr0 g5) (And.intro (H4.out.2.2.1.gr0 g5) (And.intro (H4.out.2.2.2.1.gr0 g5) (H4.out.2.2.2.2.next0 g5)))))
      clear g5 H4
      go_wp2_with fail
      with_reducible refine (esame_sl2 T _ _ w5 H5.out.1 H5.out.2.2.1 (by have := HL.out; omega)).mono ?_
      rintro e w6 ⟨rfl, g6⟩
      have H6 := Lib.hid (And.intro (H5.out.2.1.gr0 g6) (And.intro (H5.out.2.2.1.gr0 g6) (And.intro (H5.out.2.2.2.1.gr0 g6) (H5.out.2.2.2.2.next0 g6))))
      clear g6 H5
      go_wp2_with fail
      with_reducible refine (esame_sl2 T _ _ w6 H6.out.1 H6.out.2.1 (by have := HL.out; omega)).mono ?_
      rintro e w7 ⟨rfl, g7⟩
      have H7 := Lib.hid (And.intro (H6.out.2.1.gr0 g7) (And.intro (H6.out.2.2.1.gr0 g7) (H6.out.2.2.2.next0 g7)))
      clear g7 H6
      go_wp2_with fail
      with_reducible refine (esame_sl2 T _ _ w7 H7.out.2.1 H7.out.1 (by have := HL.out; omega)).mono ?_
      rintro e w8 ⟨rfl, g8⟩
      have H8 := Lib.hid (H7.out.2.2.next0 g8)
      clear g8 H7
      go_wp2_with fail
      go_ret
      exact ⟨rfl, H8.out⟩

theorem walk_ExtParts (v0 : Value) {w : World} (s0 : SlN 2 w v0) :
    Calls Try.prog 13 #[v0] w fun e w' => e = .returned (.bool true) ∧ Below w.heap.size w w' :=
  (eparts_any v0 w s0).mono fun _ _ q => ⟨q.1, q.2.below0⟩

end Go.Proofs.Ytpkhfdcokcchdaa
