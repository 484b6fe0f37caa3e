/-
  Layer 15: ExtGrows.
-/
import Derived.Test.YtpkhfdcokcchdaaMgE
namespace Go.Proofs.Ytpkhfdcokcchdaa
open Go.RowKit

theorem src_form {w : World} {v : Value} {l : List (Int × Int)} (h : Src w v l) : ∃ ao n cap, v = .slice ao n cap := by
  rcases h with ⟨_, ao, cap, h, _⟩ | ⟨b, o, cap, h, _⟩
  · exact ⟨_, _, _, h⟩
  · exact ⟨_, _, _, h⟩
/-- What the rounds of the law keep: the box of e, and the list, twice. -/
structure GwB (w2 W : World) (b0 : Nat) (e0 e1 : Int) (a9 : Option Addr) (c9 : Nat) (a10 : Option Addr) (c10 : Nat) (m : List (Int × Int)) : Prop where
  box : Holds W b0 #[.int .i64 e0, .int .i64 e1] 44
  t1 : Sl2 W (.slice a9 m.length c9) m
  t2 : Sl2 W (.slice a10 m.length c10) m
  g : Gr [] w2 W
theorem GwB.gr0 {w2 W W' : World} {b0 : Nat} {e0 e1 : Int} {a9 : Option Addr} {c9 : Nat} {a10 : Option Addr} {c10 : Nat} {m : List (Int × Int)} (h : GwB w2 W b0 e0 e1 a9 c9 a10 c10 m) (g : Gr [] W W') : GwB w2 W' b0 e0 e1 a9 c9 a10 c10 m :=
  ⟨h.box.gr0 g, h.t1.gr0 g, h.t2.gr0 g, h.g.next0 g⟩
set_option maxHeartbeats 8000000 in
set_option maxRecDepth 100000 in
theorem egrows_any (l0 : List (Int × Int)) (v : Value) (e0 e1 i : Int) (w : World) (h : Src w v l0) (he0 : -9223372036854775808 ≤ e0 ∧ e0 ≤ 9223372036854775807) (_ : -9223372036854775808 ≤ e1 ∧ e1 ≤ 9223372036854775807) :
    Calls Try.prog 11 #[v, .agg #[.int .i64 e0, .int .i64 e1], .int .i64 i] w fun e w' => e = .returned (.bool true) ∧ Gr [] w w' := by
  have HBX := Lib.hid (Holds.new w #[.int .i64 e0, .int .i64 e1] 44)
  have HG0 := Lib.hid ((Gr.refl [] w).alloc (Obj.cells #[.int .i64 e0, .int .i64 e1] 44))
  obtain ⟨aV, nV, cV, rfl⟩ := src_form h
  have HV := Lib.hid (h.gr0 HG0.out)
  have HTM := Lib.hid (etame_src l0 (.slice aV nV cV) _ HV.out)
  clear h
  go_enter Try.func11, Try.ntmps11
  go_wp2_with fail
  generalize w.alloc (Obj.cells #[.int .i64 e0, .int .i64 e1] 44) = w0 at *
  generalize w.heap.size = b0 at *
  with_reducible refine HTM.out.mono ?_
  rintro e w1 ⟨v1, rfl, s1, g1⟩
  obtain ⟨aT, nT, cT, rfl⟩ := src_form s1
  have gA := (Gr.refl [] w1).alloc (Obj.cells #[.slice aV nV cV, .slice aT nT cT] 39)
  have H2 := Lib.hid (And.intro ((HBX.out.gr0 g1).gr0 gA) (And.intro ((HV.out.gr0 g1).gr0 gA) (And.intro (s1.gr0 gA) ((HG0.out.next0 g1).next0 gA))))
  have HBV := Lib.hid (Holds.new w1 #[.slice aV nV cV, .slice aT nT cT] 39)
  clear s1 g1 HBX HG0 HV gA HTM
  go_wp2_with fail
  generalize w1.alloc (Obj.cells #[.slice aV nV cV, .slice aT nT cT] 39) = w2 at *
  generalize w1.heap.size = bV at *
  go_loopw [33] (fun q wr => ∃ k : Nat, k ≤ 2 ∧ q = .int .i64 k ∧ Gr [] w2 wr) (fun q _ => 2 - (intOf q).toNat)
  case atStart => exact ⟨0, by omega, rfl, Gr.refl _ _⟩
  case round =>
    obtain ⟨k, hk, rfl, G⟩ := hrel
    by_cases hk2 : k < 2
    · have hk3 : (k : Int) < 2 := by omega
      obtain ⟨y, ly, hy, hsy⟩ : ∃ y ly, wr.cell? ⟨bV, k, none⟩ = some y ∧ Src wr y ly := by
        by_cases q : k = 0
        · subst q; exact ⟨_, l0, (HBV.out.gr0 G).cell 0, H2.out.2.1.gr0 G⟩
        · obtain rfl : k = 1 := by omega
          exact ⟨_, tamed l0, (HBV.out.gr0 G).cell 1, H2.out.2.2.1.gr0 G⟩
      obtain ⟨aY, nY, cY, rfl⟩ := src_form hsy
      have HL := Lib.hid (elist_src ly (.slice aY nY cY) wr hsy)
      have HG := Lib.hid (And.intro (H2.out.1.gr0 G) G)
      clear G hsy
      go_wp2_with fail
      with_reducible refine HL.out.mono ?_
      rintro e w3 ⟨v9, v10, rfl, s9, s10, g3⟩
      obtain ⟨m, hm⟩ : ∃ m, m = ly.take 70 := ⟨_, rfl⟩
      have hm70 : m.length ≤ 70 := by rw [hm, List.length_take]; omega
      rw [← hm] at s9 s10
      obtain ⟨a9, c9, rfl, -⟩ := id s9
      obtain ⟨a10, c10, rfl, -⟩ := id s10
      have HB := Lib.hid (GwB.mk (HG.out.1.gr0 g3) s9 s10 (HG.out.2.next0 g3))
      clear s9 s10 g3 HL HG hm hy
      obtain ⟨N, hN⟩ : ∃ N, N = m.length := ⟨_, rfl⟩
      have HN := Lib.hid hN
      rw [← hN] at hm70 ⊢
      clear hN
      go_wp2_with fail
      by_cases hR : Right15 m
      · with_reducible refine (rright15_yes m N a10 c10 w3 (sl2_parts HB.out.t2).2.1 HN.out hR).mono ?_
        rintro e w4 ⟨rfl, g4⟩
        have HB4 := Lib.hid (HB.out.gr0 g4)
        have HRR := Lib.hid hR
        clear g4 HB hR
        obtain ⟨S, hS⟩ : ∃ S, S = sumZ m := ⟨_, rfl⟩
        have HSS := Lib.hid hS
        clear hS
        go_wp2_with fail
        with_reducible refine (eblocks_any m N S a9 c9 w4 (sl2_parts HB4.out.t1).2.1 HN.out HRR.out.small HSS.out).mono ?_
        rintro e w5 ⟨rfl, g5⟩
        have HB := Lib.hid (HB4.out.gr0 g5)
        clear g5 HB4 HRR HSS
        by_cases hS2 : 2000 < S
        · go_wp2_with fail
          go_roundw
          case rel => exact ⟨k + 1, by omega, by go_num, HB.out.g⟩
          case measure => simp [intOf]; omega
        · have hmx0 := max0 Try.prog
          obtain ⟨m1, hm1⟩ : ∃ m1, m1 = max (-1) e0 := ⟨_, rfl⟩
          have hmx1 := maxZ Try.prog (-1) e0 m1 hm1
          have hm1b : -1 ≤ m1 ∧ m1 ≤ 9223372036854775807 := by omega
          have hq0 := mx_nonneg e1
          have HM1 := Lib.hid hm1
          clear hm1
          have x0 := HB.out.box.cell 0
          have x1 := HB.out.box.cell 1
          go_wp2_with fail

          obtain ⟨z0, hz0⟩ : ∃ z, z = m1.tmod 300 := ⟨_, rfl⟩
          obtain ⟨z1, hz1⟩ : ∃ z, z = 1 + mx e1 % 5 := ⟨_, rfl⟩
          have hz0b : z0 ≤ 9223372036854775807 := by have := Int.tmod_lt_of_pos m1 (show (0 : Int) < 300 by omega); omega
          rw [← hz0, ← hz1]
          clear hz0 hz1 hmx0 hmx1 hm1b hq0 HM1 x0 x1
          have HBZ := Lib.hid (Holds.new w5 #[.int .i64 e0, .int .i64 e1, .int .i64 z0, .int .i64 z1] 44)
          have HBA := Lib.hid (HB.out.gr0 ((Gr.refl [] w5).alloc (Obj.cells #[.int .i64 e0, .int .i64 e1, .int .i64 z0, .int .i64 z1] 44)))
          generalize w5.alloc (Obj.cells #[.int .i64 e0, .int .i64 e1, .int .i64 z0, .int .i64 z1] 44) = wz at *
          generalize w5.heap.size = bz at *
          clear HB
          go_loopw [62] (fun q wr => ∃ k2 : Nat, k2 ≤ 2 ∧ q = .int .i64 k2 ∧ Gr [] wz wr) (fun q _ => 2 - (intOf q).toNat)
          case atStart => exact ⟨0, by omega, rfl, Gr.refl _ _⟩
          case round =>
            obtain ⟨k2, hkk, rfl, G⟩ := hrel
            by_cases hkz : k2 < 2
            · have hkz2 : (k2 : Int) < 2 := by omega
              obtain ⟨p, q, hp, hq, hpb⟩ : ∃ p q : Int, wr.cell? ⟨bz, k2 * 2, none⟩ = some (.int .i64 p) ∧ wr.cell? ⟨bz, k2 * 2 + 1, none⟩ = some (.int .i64 q) ∧ p ≤ 9223372036854775807 := by
                have hh := HBZ.out.gr0 G
                by_cases c : k2 = 0
                · subst c; exact ⟨e0, e1, hh.cell 0, hh.cell 1, he0.2⟩
                · obtain rfl : k2 = 1 := by omega
                  exact ⟨z0, z1, hh.cell 2, hh.cell 3, hz0b⟩
              have HC := Lib.hid (Holds.new wr #[.int .i64 p, .int .i64 q] 44)
              have c0 := HC.out.cell 0
              have c1 := HC.out.cell 1
              have gA := (Gr.refl [] wr).alloc (Obj.cells #[.int .i64 p, .int .i64 q] 44)
              have HG := Lib.hid (And.intro ((HBA.out.gr0 G).gr0 gA) (G.next0 gA))
              clear G gA
              by_cases hq1 : 3000 < q ∧ q ≤ 65536
              · obtain ⟨hq2, hq3⟩ := hq1
                have hq4 : ¬ 65536 < q := by omega
                go_wp2_with fail
                go_roundw
                case rel => exact ⟨k2 + 1, by omega, by go_num, HG.out.2⟩
                case measure => simp [intOf]; omega
              · have hq5 : (¬ 3000 < q) ∨ (3000 < q ∧ ¬ q ≤ 65536) := by omega
                rcases hq5 with hq5 | ⟨hq5, hq6⟩
                all_goals
                  go_wp2_with fail
                  have gE := (Gr.refl [] (wr.alloc (Obj.cells #[.int .i64 p, .int .i64 q] 44))).alloc (Obj.cells #[.int .i64 p, .int .i64 q] 35)
                  have HCE := Lib.hid (Holds.new (wr.alloc (Obj.cells #[.int .i64 p, .int .i64 q] 44)) #[.int .i64 p, .int .i64 q] 35)
                  rw [World.size_alloc] at HCE
                  have HK := Lib.hid (And.intro (HG.out.1.gr0 gE) (And.intro (HC.out.gr0 gE) (And.intro HCE.out (HG.out.2.next0 gE))))
                  clear gE HCE HG HC c0 c1
                  generalize (wr.alloc (Obj.cells #[.int .i64 p, .int .i64 q] 44)).alloc (Obj.cells #[.int .i64 p, .int .i64 q] 35) = wA at *
                  generalize wr.heap.size = bx at *
                  have HAP := Lib.hid (fun Wx (hx : Sl2 Wx (.slice a9 N c9) m) => eapp_O m N a9 c9 p q Wx hx)
                  have HAR := Lib.hid (fun Wx (hx : Sl2 Wx (.slice a10 N c10) m) => rapp_O m N a10 c10 p q Wx hx)
                  obtain ⟨o1, l1, ho1, hl1⟩ : ∃ (o1 : Int) (l1 : List (Int × Int)), appO m p q = (o1, l1) ∧ l1.length ≤ 64 := ⟨_, _, rfl, appO_len m p q⟩
                  rw [ho1] at HAP HAR
                  clear ho1
                  with_reducible refine (HAP.out _ (by rw [HN.out]; exact HK.out.1.t1)).mono ?_
                  rintro e wB ⟨vA, rfl, sA, gB⟩
                  obtain ⟨aA, cA, rfl, -⟩ := id sA
                  have HK2 := Lib.hid (And.intro (HK.out.1.gr0 gB) (And.intro (HK.out.2.1.gr0 gB) (And.intro (HK.out.2.2.1.gr0 gB) (And.intro sA (HK.out.2.2.2.next0 gB)))))
                  clear sA gB HK HAP
                  have c0 := HK2.out.2.1.cell 0
                  have c1 := HK2.out.2.1.cell 1
                  go_wp2_with fail
                  with_reducible refine (HAR.out _ (by rw [HN.out]; exact HK2.out.1.t2)).mono ?_
                  rintro e wC ⟨vB, rfl, sB, gC⟩
                  obtain ⟨aB, cB, rfl, -⟩ := id sB
                  have HK3 := Lib.hid (And.intro (HK2.out.1.gr0 gC) (And.intro (HK2.out.2.1.gr0 gC) (And.intro (HK2.out.2.2.1.gr0 gC) (And.intro (HK2.out.2.2.2.1.gr0 gC) (And.intro sB (HK2.out.2.2.2.2.next0 gC))))))
                  clear sB gC HK2 HAR c0 c1
                  go_wp2_with fail
                  with_reducible refine (esame_sl2 l1 _ _ wC HK3.out.2.2.2.1 HK3.out.2.2.2.2.1 (by omega)).mono ?_
                  rintro e wD ⟨rfl, gD⟩
                  have HK := Lib.hid (And.intro (HK3.out.1.gr0 gD) (And.intro (HK3.out.2.1.gr0 gD) (And.intro (HK3.out.2.2.1.gr0 gD) (HK3.out.2.2.2.2.2.next0 gD))))
                  clear gD HK3
                  go_wp2_with fail
                  obtain ⟨i2, hi2⟩ : ∃ i2, i2 = max 0 i % 40 := ⟨_, rfl⟩
                  rw [← hi2]
                  clear hi2
                  have HBI := Lib.hid (Holds.new wD #[.int .i64 i, .int .i64 i2] 3)
                  have gF := (Gr.refl [] wD).alloc (Obj.cells #[.int .i64 i, .int .i64 i2] 3)
                  have HF := Lib.hid (And.intro (HK.out.1.gr0 gF) (And.intro (HK.out.2.1.gr0 gF) (And.intro (HK.out.2.2.1.gr0 gF) (HK.out.2.2.2.next0 gF))))
                  clear gF HK
                  generalize wD.alloc (Obj.cells #[.int .i64 i, .int .i64 i2] 3) = wF at *
                  generalize wD.heap.size = bi at *
                  go_loopw [109] (fun x wr => ∃ k3 : Nat, k3 ≤ 2 ∧ x = .int .i64 k3 ∧ Gr [] wF wr) (fun x _ => 2 - (intOf x).toNat)
                  case atStart => exact ⟨0, by omega, rfl, Gr.refl _ _⟩
                  case round =>
                    obtain ⟨k3, hk3, rfl, G⟩ := hrel
                    by_cases hkf : k3 < 2
                    · have hkf2 : (k3 : Int) < 2 := by omega
                      obtain ⟨t, ht⟩ : ∃ t : Int, wr.cell? ⟨bi, k3, none⟩ = some (.int .i64 t) := by
                        have hh := HBI.out.gr0 G
                        by_cases c : k3 = 0
                        · subst c; exact ⟨i, hh.cell 0⟩
                        · obtain rfl : k3 = 1 := by omega
                          exact ⟨i2, hh.cell 1⟩
                      have HP := Lib.hid (And.intro (HF.out.1.gr0 G) (And.intro (HF.out.2.1.gr0 G) (And.intro (HF.out.2.2.1.gr0 G) G)))
                      clear G
                      have d0 := HP.out.2.2.1.cell 0
                      have d1 := HP.out.2.2.1.cell 1
                      have HAP := Lib.hid (fun Wx (hx : Sl2 Wx (.slice a9 N c9) m) => efill_O m N a9 c9 t p q Wx hx hpb)
                      have HAR := Lib.hid (fun Wx (hx : Sl2 Wx (.slice a10 N c10) m) => rfill_O m N a10 c10 t p q Wx hx hpb)
                      obtain ⟨o1, l1, ho1, hl1⟩ : ∃ (o1 : Int) (l1 : List (Int × Int)), fillO m t p q = (o1, l1) ∧ l1.length ≤ 64 := ⟨_, _, rfl, fillO_len m t p q⟩
                      rw [ho1] at HAP HAR
                      clear ho1
                      go_wp2_with fail
                      with_reducible refine (HAP.out _ (by rw [HN.out]; exact HP.out.1.t1)).mono ?_
                      rintro e wB ⟨vA, rfl, sA, gB⟩
                      obtain ⟨aA, cA, rfl, -⟩ := id sA
                      have HP2 := Lib.hid (And.intro (HP.out.1.gr0 gB) (And.intro (HP.out.2.1.gr0 gB) (And.intro sA (HP.out.2.2.2.next0 gB))))
                      clear sA gB HP HAP ht d0 d1
                      have c0 := HP2.out.2.1.cell 0
                      have c1 := HP2.out.2.1.cell 1
                      go_wp2_with fail
                      with_reducible refine (HAR.out _ (by rw [HN.out]; exact HP2.out.1.t2)).mono ?_
                      rintro e wC ⟨vB, rfl, sB, gC⟩
                      obtain ⟨aB, cB, rfl, -⟩ := id sB
                      have HP3 := Lib.hid (And.intro (HP2.out.2.2.1.gr0 gC) (And.intro sB (HP2.out.2.2.2.next0 gC)))
                      clear sB gC HP2 HAR c0 c1
                      go_wp2_with fail
                      with_reducible refine (esame_sl2 l1 _ _ wC HP3.out.1 HP3.out.2.1 (by omega)).mono ?_
                      rintro e wE ⟨rfl, gE⟩
                      have HP := Lib.hid (HP3.out.2.2.next0 gE)
                      clear gE HP3
                      go_wp2_with fail
                      go_roundw
                      case rel => exact ⟨k3 + 1, by omega, by go_num, HP.out⟩
                      case measure => simp [intOf]; omega
                    · obtain rfl : k3 = 2 := by omega
                      have HE := Lib.hid (HF.out.2.2.2.next0 G)
                      clear G
                      go_wp2_with fail
                      go_roundw
                      case rel => exact ⟨k2 + 1, by omega, by go_num, HE.out⟩
                      case measure => simp [intOf]; omega
            · have hkz3 : (k2 : Int) = 2 := by omega
              rw [hkz3]
              clear hkz3
              have HQ := Lib.hid (HBA.out.gr0 G)
              clear G HBA HBZ
              go_wp2_with fail
              obtain ⟨i3, hi3⟩ : ∃ i3, i3 = max 0 i % 60 := ⟨_, rfl⟩
              rw [← hi3]
              clear hi3
              have HBI := Lib.hid (Holds.new wr #[.int .i64 i, .int .i64 i3] 3)
              have HF := Lib.hid (HQ.out.gr0 ((Gr.refl [] wr).alloc (Obj.cells #[.int .i64 i, .int .i64 i3] 3)))
              clear HQ
              generalize wr.alloc (Obj.cells #[.int .i64 i, .int .i64 i3] 3) = wF at *
              generalize wr.heap.size = bi at *
              go_loopw [147] (fun x wr => ∃ k3 : Nat, k3 ≤ 2 ∧ x = .int .i64 k3 ∧ Gr [] wF wr) (fun x _ => 2 - (intOf x).toNat)
              case atStart => exact ⟨0, by omega, rfl, Gr.refl _ _⟩
              case round =>
                obtain ⟨k3, hk3, rfl, G⟩ := hrel
                by_cases hkf : k3 < 2
                · have hkf2 : (k3 : Int) < 2 := by omega
                  obtain ⟨t, ht⟩ : ∃ t : Int, wr.cell? ⟨bi, k3, none⟩ = some (.int .i64 t) := by
                    have hh := HBI.out.gr0 G
                    by_cases c : k3 = 0
                    · subst c; exact ⟨i, hh.cell 0⟩
                    · obtain rfl : k3 = 1 := by omega
                      exact ⟨i3, hh.cell 1⟩
                  have HP := Lib.hid (And.intro (HF.out.gr0 G) G)
                  clear G
                  have HAP := Lib.hid (fun Wx (hx : Sl2 Wx (.slice a9 N c9) m) => ecut_O m N a9 c9 t Wx hx)
                  have HAR := Lib.hid (fun Wx (hx : Sl2 Wx (.slice a10 N c10) m) => rcut_O m N a10 c10 t Wx hx)
                  obtain ⟨o1, l1, l2, ho1, hl1, hl2⟩ : ∃ (o1 : Int) (l1 l2 : List (Int × Int)), cutO m t = (o1, l1, l2) ∧ l1.length ≤ 64 ∧ l2.length ≤ 64 := ⟨_, _, _, rfl, cutO_len m t⟩
                  rw [ho1] at HAP HAR
                  clear ho1
                  go_wp2_with fail
                  with_reducible refine (HAP.out _ (by rw [HN.out]; exact HP.out.1.t1)).mono ?_
                  rintro e wB ⟨vA, vF, rfl, sA, sF, gB⟩
                  obtain ⟨aA, cA, rfl, -⟩ := id sA
                  obtain ⟨aF, cF, rfl, -⟩ := id sF
                  have HP2 := Lib.hid (And.intro (HP.out.1.gr0 gB) (And.intro sA (And.intro sF (HP.out.2.next0 gB))))
                  clear sA sF gB HP HAP ht
                  go_wp2_with fail
                  with_reducible refine (HAR.out _ (by rw [HN.out]; exact HP2.out.1.t2)).mono ?_
                  rintro e wC ⟨vB, vG, rfl, sB, sG, gC⟩
                  obtain ⟨aB, cB, rfl, -⟩ := id sB
                  obtain ⟨aG, cG, rfl, -⟩ := id sG
                  have HP3 := Lib.hid (And.intro (HP2.out.2.1.gr0 gC) (And.intro sB (And.intro (HP2.out.2.2.1.gr0 gC) (And.intro sG (HP2.out.2.2.2.next0 gC)))))
                  clear sB sG gC HP2 HAR
                  go_wp2_with fail
                  with_reducible refine (esame_sl2 l1 _ _ wC HP3.out.1 HP3.out.2.1 (by omega)).mono ?_
                  rintro e wE ⟨rfl, gE⟩
                  have HP := Lib.hid (And.intro (HP3.out.2.2.1.gr0 gE) (And.intro (HP3.out.2.2.2.1.gr0 gE) (HP3.out.2.2.2.2.next0 gE)))
                  clear gE HP3
                  go_wp2_with fail
                  with_reducible refine (esame_sl2 l2 _ _ wE HP.out.1 HP.out.2.1 (by omega)).mono ?_
                  rintro e wG ⟨rfl, gE⟩
                  have HP4 := Lib.hid (HP.out.2.2.next0 gE)
                  clear gE HP
                  go_wp2_with fail
                  go_roundw
                  case rel => exact ⟨k3 + 1, by omega, by go_num, HP4.out⟩
                  case measure => simp [intOf]; omega
                · obtain rfl : k3 = 2 := by omega
                  have HQ := Lib.hid (HF.out.gr0 G)
                  clear G
                  go_wp2_with fail
                  with_reducible refine (esame_sl2 m _ _ wr (by rw [HN.out]; exact HQ.out.t1) (by rw [HN.out]; exact HQ.out.t2) (by have := HN.out; omega)).mono ?_
                  rintro e wE ⟨rfl, gE⟩
                  have HE := Lib.hid (HQ.out.g.next0 gE)
                  clear gE HQ
                  go_wp2_with fail
                  go_roundw
                  case rel => exact ⟨k + 1, by omega, by go_num, HE.out⟩
                  case measure => simp [intOf]; omega
      · with_reducible refine (rright15_no m N a10 c10 w3 (sl2_parts HB.out.t2).2.1 HN.out hR).mono ?_
        rintro e w5 ⟨rfl, g5⟩
        have HB' := Lib.hid (HB.out.gr0 g5)
        clear g5 HB hR
        have HB := HB'
        clear HB'
        have hmx0 := max0 Try.prog
        obtain ⟨m1, hm1⟩ : ∃ m1, m1 = max (-1) e0 := ⟨_, rfl⟩
        have hmx1 := maxZ Try.prog (-1) e0 m1 hm1
        have hm1b : -1 ≤ m1 ∧ m1 ≤ 9223372036854775807 := by omega
        have hq0 := mx_nonneg e1
        have HM1 := Lib.hid hm1
        clear hm1
        have x0 := HB.out.box.cell 0
        have x1 := HB.out.box.cell 1
        go_wp2_with fail

        obtain ⟨z0, hz0⟩ : ∃ z, z = m1.tmod 300 := ⟨_, rfl⟩
        obtain ⟨z1, hz1⟩ : ∃ z, z = 1 + mx e1 % 5 := ⟨_, rfl⟩
        have hz0b : z0 ≤ 9223372036854775807 := by have := Int.tmod_lt_of_pos m1 (show (0 : Int) < 300 by omega); omega
        rw [← hz0, ← hz1]
        clear hz0 hz1 hmx0 hmx1 hm1b hq0 HM1 x0 x1
        have HBZ := Lib.hid (Holds.new w5 #[.int .i64 e0, .int .i64 e1, .int .i64 z0, .int .i64 z1] 44)
        have HBA := Lib.hid (HB.out.gr0 ((Gr.refl [] w5).alloc (Obj.cells #[.int .i64 e0, .int .i64 e1, .int .i64 z0, .int .i64 z1] 44)))
        generalize w5.alloc (Obj.cells #[.int .i64 e0, .int .i64 e1, .int .i64 z0, .int .i64 z1] 44) = wz at *
        generalize w5.heap.size = bz at *
        clear HB
        go_loopw [62] (fun q wr => ∃ k2 : Nat, k2 ≤ 2 ∧ q = .int .i64 k2 ∧ Gr [] wz wr) (fun q _ => 2 - (intOf q).toNat)
        case atStart => exact ⟨0, by omega, rfl, Gr.refl _ _⟩
        case round =>
          obtain ⟨k2, hkk, rfl, G⟩ := hrel
          by_cases hkz : k2 < 2
          · have hkz2 : (k2 : Int) < 2 := by omega
            obtain ⟨p, q, hp, hq, hpb⟩ : ∃ p q : Int, wr.cell? ⟨bz, k2 * 2, none⟩ = some (.int .i64 p) ∧ wr.cell? ⟨bz, k2 * 2 + 1, none⟩ = some (.int .i64 q) ∧ p ≤ 9223372036854775807 := by
              have hh := HBZ.out.gr0 G
              by_cases c : k2 = 0
              · subst c; exact ⟨e0, e1, hh.cell 0, hh.cell 1, he0.2⟩
              · obtain rfl : k2 = 1 := by omega
                exact ⟨z0, z1, hh.cell 2, hh.cell 3, hz0b⟩
            have HC := Lib.hid (Holds.new wr #[.int .i64 p, .int .i64 q] 44)
            have c0 := HC.out.cell 0
            have c1 := HC.out.cell 1
            have gA := (Gr.refl [] wr).alloc (Obj.cells #[.int .i64 p, .int .i64 q] 44)
            have HG := Lib.hid (And.intro ((HBA.out.gr0 G).gr0 gA) (G.next0 gA))
            clear G gA
            by_cases hq1 : 3000 < q ∧ q ≤ 65536
            · obtain ⟨hq2, hq3⟩ := hq1
              have hq4 : ¬ 65536 < q := by omega
              go_wp2_with fail
              go_roundw
              case rel => exact ⟨k2 + 1, by omega, by go_num, HG.out.2⟩
              case measure => simp [intOf]; omega
            · have hq5 : (¬ 3000 < q) ∨ (3000 < q ∧ ¬ q ≤ 65536) := by omega
              rcases hq5 with hq5 | ⟨hq5, hq6⟩
              all_goals
                go_wp2_with fail
                have gE := (Gr.refl [] (wr.alloc (Obj.cells #[.int .i64 p, .int .i64 q] 44))).alloc (Obj.cells #[.int .i64 p, .int .i64 q] 35)
                have HCE := Lib.hid (Holds.new (wr.alloc (Obj.cells #[.int .i64 p, .int .i64 q] 44)) #[.int .i64 p, .int .i64 q] 35)
                rw [World.size_alloc] at HCE
                have HK := Lib.hid (And.intro (HG.out.1.gr0 gE) (And.intro (HC.out.gr0 gE) (And.intro HCE.out (HG.out.2.next0 gE))))
                clear gE HCE HG HC c0 c1
                generalize (wr.alloc (Obj.cells #[.int .i64 p, .int .i64 q] 44)).alloc (Obj.cells #[.int .i64 p, .int .i64 q] 35) = wA at *
                generalize wr.heap.size = bx at *
                have HAP := Lib.hid (fun Wx (hx : Sl2 Wx (.slice a9 N c9) m) => eapp_O m N a9 c9 p q Wx hx)
                have HAR := Lib.hid (fun Wx (hx : Sl2 Wx (.slice a10 N c10) m) => rapp_O m N a10 c10 p q Wx hx)
                obtain ⟨o1, l1, ho1, hl1⟩ : ∃ (o1 : Int) (l1 : List (Int × Int)), appO m p q = (o1, l1) ∧ l1.length ≤ 64 := ⟨_, _, rfl, appO_len m p q⟩
                rw [ho1] at HAP HAR
                clear ho1
                with_reducible refine (HAP.out _ (by rw [HN.out]; exact HK.out.1.t1)).mono ?_
                rintro e wB ⟨vA, rfl, sA, gB⟩
                obtain ⟨aA, cA, rfl, -⟩ := id sA
                have HK2 := Lib.hid (And.intro (HK.out.1.gr0 gB) (And.intro (HK.out.2.1.gr0 gB) (And.intro (HK.out.2.2.1.gr0 gB) (And.intro sA (HK.out.2.2.2.next0 gB)))))
                clear sA gB HK HAP
                have c0 := HK2.out.2.1.cell 0
                have c1 := HK2.out.2.1.cell 1
                go_wp2_with fail
                with_reducible refine (HAR.out _ (by rw [HN.out]; exact HK2.out.1.t2)).mono ?_
                rintro e wC ⟨vB, rfl, sB, gC⟩
                obtain ⟨aB, cB, rfl, -⟩ := id sB
                have HK3 := Lib.hid (And.intro (HK2.out.1.gr0 gC) (And.intro (HK2.out.2.1.gr0 gC) (And.intro (HK2.out.2.2.1.gr0 gC) (And.intro (HK2.out.2.2.2.1.gr0 gC) (And.intro sB (HK2.out.2.2.2.2.next0 gC))))))
                clear sB gC HK2 HAR c0 c1
                go_wp2_with fail
                with_reducible refine (esame_sl2 l1 _ _ wC HK3.out.2.2.2.1 HK3.out.2.2.2.2.1 (by omega)).mono ?_
                rintro e wD ⟨rfl, gD⟩
                have HK := Lib.hid (And.intro (HK3.out.1.gr0 gD) (And.intro (HK3.out.2.1.gr0 gD) (And.intro (HK3.out.2.2.1.gr0 gD) (HK3.out.2.2.2.2.2.next0 gD))))
                clear gD HK3
                go_wp2_with fail
                obtain ⟨i2, hi2⟩ : ∃ i2, i2 = max 0 i % 40 := ⟨_, rfl⟩
                rw [← hi2]
                clear hi2
                have HBI := Lib.hid (Holds.new wD #[.int .i64 i, .int .i64 i2] 3)
                have gF := (Gr.refl [] wD).alloc (Obj.cells #[.int .i64 i, .int .i64 i2] 3)
                have HF := Lib.hid (And.intro (HK.out.1.gr0 gF) (And.intro (HK.out.2.1.gr0 gF) (And.intro (HK.out.2.2.1.gr0 gF) (HK.out.2.2.2.next0 gF))))
                clear gF HK
                generalize wD.alloc (Obj.cells #[.int .i64 i, .int .i64 i2] 3) = wF at *
                generalize wD.heap.size = bi at *
                go_loopw [109] (fun x wr => ∃ k3 : Nat, k3 ≤ 2 ∧ x = .int .i64 k3 ∧ Gr [] wF wr) (fun x _ => 2 - (intOf x).toNat)
                case atStart => exact ⟨0, by omega, rfl, Gr.refl _ _⟩
                case round =>
                  obtain ⟨k3, hk3, rfl, G⟩ := hrel
                  by_cases hkf : k3 < 2
                  · have hkf2 : (k3 : Int) < 2 := by omega
                    obtain ⟨t, ht⟩ : ∃ t : Int, wr.cell? ⟨bi, k3, none⟩ = some (.int .i64 t) := by
                      have hh := HBI.out.gr0 G
                      by_cases c : k3 = 0
                      · subst c; exact ⟨i, hh.cell 0⟩
                      · obtain rfl : k3 = 1 := by omega
                        exact ⟨i2, hh.cell 1⟩
                    have HP := Lib.hid (And.intro (HF.out.1.gr0 G) (And.intro (HF.out.2.1.gr0 G) (And.intro (HF.out.2.2.1.gr0 G) G)))
                    clear G
                    have d0 := HP.out.2.2.1.cell 0
                    have d1 := HP.out.2.2.1.cell 1
                    have HAP := Lib.hid (fun Wx (hx : Sl2 Wx (.slice a9 N c9) m) => efill_O m N a9 c9 t p q Wx hx hpb)
                    have HAR := Lib.hid (fun Wx (hx : Sl2 Wx (.slice a10 N c10) m) => rfill_O m N a10 c10 t p q Wx hx hpb)
                    obtain ⟨o1, l1, ho1, hl1⟩ : ∃ (o1 : Int) (l1 : List (Int × Int)), fillO m t p q = (o1, l1) ∧ l1.length ≤ 64 := ⟨_, _, rfl, fillO_len m t p q⟩
                    rw [ho1] at HAP HAR
                    clear ho1
                    go_wp2_with fail
                    with_reducible refine (HAP.out _ (by rw [HN.out]; exact HP.out.1.t1)).mono ?_
                    rintro e wB ⟨vA, rfl, sA, gB⟩
                    obtain ⟨aA, cA, rfl, -⟩ := id sA
                    have HP2 := Lib.hid (And.intro (HP.out.1.gr0 gB) (And.intro (HP.out.2.1.gr0 gB) (And.intro sA (HP.out.2.2.2.next0 gB))))
                    clear sA gB HP HAP ht d0 d1
                    have c0 := HP2.out.2.1.cell 0
                    have c1 := HP2.out.2.1.cell 1
                    go_wp2_with fail
                    with_reducible refine (HAR.out _ (by rw [HN.out]; exact HP2.out.1.t2)).mono ?_
                    rintro e wC ⟨vB, rfl, sB, gC⟩
                    obtain ⟨aB, cB, rfl, -⟩ := id sB
                    have HP3 := Lib.hid (And.intro (HP2.out.2.2.1.gr0 gC) (And.intro sB (HP2.out.2.2.2.next0 gC)))
                    clear sB gC HP2 HAR c0 c1
                    go_wp2_with fail
                    with_reducible refine (esame_sl2 l1 _ _ wC HP3.out.1 HP3.out.2.1 (by omega)).mono ?_
                    rintro e wE ⟨rfl, gE⟩
                    have HP := Lib.hid (HP3.out.2.2.next0 gE)
                    clear gE HP3
                    go_wp2_with fail
                    go_roundw
                    case rel => exact ⟨k3 + 1, by omega, by go_num, HP.out⟩
                    case measure => simp [intOf]; omega
                  · obtain rfl : k3 = 2 := by omega
                    have HE := Lib.hid (HF.out.2.2.2.next0 G)
                    clear G
                    go_wp2_with fail
                    go_roundw
                    case rel => exact ⟨k2 + 1, by omega, by go_num, HE.out⟩
                    case measure => simp [intOf]; omega
          · have hkz3 : (k2 : Int) = 2 := by omega
            rw [hkz3]
            clear hkz3
            have HQ := Lib.hid (HBA.out.gr0 G)
            clear G HBA HBZ
            go_wp2_with fail
            obtain ⟨i3, hi3⟩ : ∃ i3, i3 = max 0 i % 60 := ⟨_, rfl⟩
            rw [← hi3]
            clear hi3
            have HBI := Lib.hid (Holds.new wr #[.int .i64 i, .int .i64 i3] 3)
            have HF := Lib.hid (HQ.out.gr0 ((Gr.refl [] wr).alloc (Obj.cells #[.int .i64 i, .int .i64 i3] 3)))
            clear HQ
            generalize wr.alloc (Obj.cells #[.int .i64 i, .int .i64 i3] 3) = wF at *
            generalize wr.heap.size = bi at *
            go_loopw [147] (fun x wr => ∃ k3 : Nat, k3 ≤ 2 ∧ x = .int .i64 k3 ∧ Gr [] wF wr) (fun x _ => 2 - (intOf x).toNat)
            case atStart => exact ⟨0, by omega, rfl, Gr.refl _ _⟩
            case round =>
              obtain ⟨k3, hk3, rfl, G⟩ := hrel
              by_cases hkf : k3 < 2
              · have hkf2 : (k3 : Int) < 2 := by omega
                obtain ⟨t, ht⟩ : ∃ t : Int, wr.cell? ⟨bi, k3, none⟩ = some (.int .i64 t) := by
                  have hh := HBI.out.gr0 G
                  by_cases c : k3 = 0
                  · subst c; exact ⟨i, hh.cell 0⟩
                  · obtain rfl : k3 = 1 := by omega
                    exact ⟨i3, hh.cell 1⟩
                have HP := Lib.hid (And.intro (HF.out.gr0 G) G)
                clear G
                have HAP := Lib.hid (fun Wx (hx : Sl2 Wx (.slice a9 N c9) m) => ecut_O m N a9 c9 t Wx hx)
                have HAR := Lib.hid (fun Wx (hx : Sl2 Wx (.slice a10 N c10) m) => rcut_O m N a10 c10 t Wx hx)
                obtain ⟨o1, l1, l2, ho1, hl1, hl2⟩ : ∃ (o1 : Int) (l1 l2 : List (Int × Int)), cutO m t = (o1, l1, l2) ∧ l1.length ≤ 64 ∧ l2.length ≤ 64 := ⟨_, _, _, rfl, cutO_len m t⟩
                rw [ho1] at HAP HAR
                clear ho1
                go_wp2_with fail
                with_reducible refine (HAP.out _ (by rw [HN.out]; exact HP.out.1.t1)).mono ?_
                rintro e wB ⟨vA, vF, rfl, sA, sF, gB⟩
                obtain ⟨aA, cA, rfl, -⟩ := id sA
                obtain ⟨aF, cF, rfl, -⟩ := id sF
                have HP2 := Lib.hid (And.intro (HP.out.1.gr0 gB) (And.intro sA (And.intro sF (HP.out.2.next0 gB))))
                clear sA sF gB HP HAP ht
                go_wp2_with fail
                with_reducible refine (HAR.out _ (by rw [HN.out]; exact HP2.out.1.t2)).mono ?_
                rintro e wC ⟨vB, vG, rfl, sB, sG, gC⟩
                obtain ⟨aB, cB, rfl, -⟩ := id sB
                obtain ⟨aG, cG, rfl, -⟩ := id sG
                have HP3 := Lib.hid (And.intro (HP2.out.2.1.gr0 gC) (And.intro sB (And.intro (HP2.out.2.2.1.gr0 gC) (And.intro sG (HP2.out.2.2.2.next0 gC)))))
                clear sB sG gC HP2 HAR
                go_wp2_with fail
                with_reducible refine (esame_sl2 l1 _ _ wC HP3.out.1 HP3.out.2.1 (by omega)).mono ?_
                rintro e wE ⟨rfl, gE⟩
                have HP := Lib.hid (And.intro (HP3.out.2.2.1.gr0 gE) (And.intro (HP3.out.2.2.2.1.gr0 gE) (HP3.out.2.2.2.2.next0 gE)))
                clear gE HP3
                go_wp2_with fail
                with_reducible refine (esame_sl2 l2 _ _ wE HP.out.1 HP.out.2.1 (by omega)).mono ?_
                rintro e wG ⟨rfl, gE⟩
                have HP4 := Lib.hid (HP.out.2.2.next0 gE)
                clear gE HP
                go_wp2_with fail
                go_roundw
                case rel => exact ⟨k3 + 1, by omega, by go_num, HP4.out⟩
                case measure => simp [intOf]; omega
              · obtain rfl : k3 = 2 := by omega
                have HQ := Lib.hid (HF.out.gr0 G)
                clear G
                go_wp2_with fail
                with_reducible refine (esame_sl2 m _ _ wr (by rw [HN.out]; exact HQ.out.t1) (by rw [HN.out]; exact HQ.out.t2) (by have := HN.out; omega)).mono ?_
                rintro e wE ⟨rfl, gE⟩
                have HE := Lib.hid (HQ.out.g.next0 gE)
                clear gE HQ
                go_wp2_with fail
                go_roundw
                case rel => exact ⟨k + 1, by omega, by go_num, HE.out⟩
                case measure => simp [intOf]; omega
    · obtain rfl : k = 2 := by omega
      refine ?_
      go_wp2_with fail
      with_reducible refine (ewakes15 wr).mono ?_
      rintro e w9 ⟨rfl, g9⟩
      have HF := Lib.hid (H2.out.2.2.2.next0 (G.next0 g9))
      clear g9 G
      go_wp2_with fail
      go_ret
      exact ⟨rfl, HF.out⟩

theorem walk_ExtGrows (v0 : Value) (a1 : List Int) (a2 : Int) {w : World} (s0 : SlN 2 w v0) (l1 : a1.length = 2) (w1 : ∀ x ∈ a1, (Lit.int .i64 x).wf = true) (_ : (Lit.int .i64 a2).wf = true) :
    Calls Try.prog 11 #[v0, .agg (a1.map (Value.int .i64)).toArray, .int .i64 a2] w fun e w' => e = .returned (.bool true) ∧ Below w.heap.size w w' := by
  obtain ⟨l, hl, _⟩ := src_of s0
  match a1, l1 with
  | [x0, x1], _ => exact (egrows_any l v0 x0 x1 a2 w hl (bounds_i64 (w1 x0 (by simp))) (bounds_i64 (w1 x1 (by simp)))).mono fun _ _ q => ⟨q.1, q.2.below0⟩

end Go.Proofs.Ytpkhfdcokcchdaa
