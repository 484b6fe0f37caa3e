/-
  Layer 15: ExtMaps.
-/
import Derived.Test.YtpkhfdcokcchdaaMgE
import Derived.Test.YtpkhfdcokcchdaaEzC
import Derived.Test.YtpkhfdcokcchdaaMgF
import Derived.Test.YtpkhfdcokcchdaaEzF
import Derived.Test.YtpkhfdcokcchdaaMgC
namespace Go.Proofs.Ytpkhfdcokcchdaa
open Go.RowKit

theorem src_form2 {w : World} {v : Value} {l : List (Int × Int)} (h : Src w v l) : ∃ ao n cap, v = .slice ao n cap := by
  rcases h with ⟨_, ao, cap, h, _⟩ | ⟨b, o, cap, h, _⟩
  · exact ⟨_, _, _, h⟩
  · exact ⟨_, _, _, h⟩
/-- What the rounds of the law keep: the list, twice. -/
structure GmB (w2 W : World) (a9 : Option Addr) (c9 : Nat) (a10 : Option Addr) (c10 : Nat) (m : List (Int × Int)) : Prop where
  t1 : Sl2 W (.slice a9 m.length c9) m
  t2 : Sl2 W (.slice a10 m.length c10) m
  g : Gr [] w2 W
theorem GmB.gr0 {w2 W W' : World} {a9 : Option Addr} {c9 : Nat} {a10 : Option Addr} {c10 : Nat} {m : List (Int × Int)} (h : GmB w2 W a9 c9 a10 c10 m) (g : Gr [] W W') : GmB w2 W' a9 c9 a10 c10 m :=
  ⟨h.t1.gr0 g, h.t2.gr0 g, h.g.next0 g⟩
set_option maxHeartbeats 8000000 in
set_option maxRecDepth 100000 in
theorem emaps_any (l0 : List (Int × Int)) (v : Value) (i : Int) (s : ByteArray) (w : World) (h : Src w v l0) (hi : i ≤ 9223372036854775807) (hs : s.size ≤ maxLen) :
    Calls Try.prog 10 #[v, .int .i64 i, .string s] w fun e w' => e = .returned (.bool true) ∧ Gr [] w w' := by
  obtain ⟨aV, nV, cV, rfl⟩ := src_form2 h
  have HV := Lib.hid h
  have HTM := Lib.hid (etame_src l0 (.slice aV nV cV) _ HV.out)
  have HSZ := Lib.hid hs
  have hs9 : s.size ≤ 9223372036854775807 := by unfold maxLen at hs; omega
  clear h hs
  go_enter Try.func10, Try.ntmps10
  go_wp2_with fail
  with_reducible refine HTM.out.mono ?_
  rintro e w1 ⟨v1, rfl, s1, g1⟩
  obtain ⟨aT, nT, cT, rfl⟩ := src_form2 s1
  have gA := (Gr.refl [] w1).alloc (Obj.cells #[.slice aV nV cV, .slice aT nT cT] 39)
  have H2 := Lib.hid (And.intro ((HV.out.gr0 g1).gr0 gA) (And.intro (s1.gr0 gA) (g1.next0 gA)))
  have HBV := Lib.hid (Holds.new w1 #[.slice aV nV cV, .slice aT nT cT] 39)
  clear s1 g1 HV gA HTM
  go_wp2_with fail
  generalize w1.alloc (Obj.cells #[.slice aV nV cV, .slice aT nT cT] 39) = w2 at *
  generalize w1.heap.size = bV at *
  go_loopw [32] (fun q wr => ∃ k : Nat, k ≤ 2 ∧ q = .int .i64 k ∧ Gr [] w2 wr) (fun q _ => 2 - (intOf q).toNat)
  case atStart => exact ⟨0, by omega, rfl, Gr.refl _ _⟩
  case round =>
    obtain ⟨k, hk, rfl, G⟩ := hrel
    by_cases hk2 : k < 2
    · have hk3 : (k : Int) < 2 := by omega
      obtain ⟨y, ly, hy, hsy⟩ : ∃ y ly, wr.cell? ⟨bV, k, none⟩ = some y ∧ Src wr y ly := by
        by_cases q : k = 0
        · subst q; exact ⟨_, l0, (HBV.out.gr0 G).cell 0, H2.out.1.gr0 G⟩
        · obtain rfl : k = 1 := by omega
          exact ⟨_, tamed l0, (HBV.out.gr0 G).cell 1, H2.out.2.1.gr0 G⟩
      obtain ⟨aY, nY, cY, rfl⟩ := src_form2 hsy
      have HL := Lib.hid (elist_src ly (.slice aY nY cY) wr hsy)
      have HG := Lib.hid G
      clear G hsy
      go_wp2_with fail
      with_reducible refine HL.out.mono ?_
      rintro e w3 ⟨v9, v10, rfl, s9, s10, g3⟩
      obtain ⟨m, hm⟩ : ∃ m, m = ly.take 70 := ⟨_, rfl⟩
      have hm70 : m.length ≤ 70 := by rw [hm, List.length_take]; omega
      rw [← hm] at s9 s10
      obtain ⟨a9, c9, rfl, -⟩ := id s9
      obtain ⟨a10, c10, rfl, -⟩ := id s10
      have HB := Lib.hid (GmB.mk s9 s10 (HG.out.next0 g3))
      clear s9 s10 g3 HL HG hm hy
      obtain ⟨N, hN⟩ : ∃ N, N = m.length := ⟨_, rfl⟩
      have HN := Lib.hid hN
      rw [← hN] at hm70 ⊢
      clear hN
      go_wp2_with fail
      by_cases hR : Right15 m
      · have HRR := Lib.hid hR
        clear hR
        obtain ⟨S, hS⟩ : ∃ S : ByteArray, S.data.toList = bytP m := ⟨⟨(bytP m).toArray⟩, rfl⟩
        have HS := Lib.hid hS
        clear hS
        with_reducible refine (eright_yes m N a9 c9 w3 (sl2_parts HB.out.t1).2.1 HN.out HRR.out).mono ?_
        rintro e w4 ⟨rfl, gc⟩
        have HB' := Lib.hid (HB.out.gr0 gc)
        clear gc HB
        have HB := HB'
        clear HB' 
        go_wp2_with fail
        with_reducible refine (rright15_yes m N a10 c10 w4 (sl2_parts HB.out.t2).2.1 HN.out HRR.out).mono ?_
        rintro e w5 ⟨rfl, gc⟩
        have HB' := Lib.hid (HB.out.gr0 gc)
        clear gc HB
        have HB := HB'
        clear HB' 
        go_wp2_with fail
        with_reducible refine (etext_yes m N S a9 c9 w5 (sl2_parts HB.out.t1).2.1 HN.out HRR.out HS.out).mono ?_
        rintro e w6 ⟨rfl, gc⟩
        have HB' := Lib.hid (HB.out.gr0 gc)
        clear gc HB
        have HB := HB'
        clear HB' 
        go_wp2_with fail
        with_reducible refine (rtext_yes m N S a10 c10 w6 (sl2_parts HB.out.t2).2.1 HN.out HRR.out HS.out).mono ?_
        rintro e w7 ⟨rfl, gc⟩
        have HB' := Lib.hid (HB.out.gr0 gc)
        clear gc HB
        have HB := HB'
        clear HB' 
        go_wp2_with fail
        with_reducible refine (rright15_yes m N a10 c10 w7 (sl2_parts HB.out.t2).2.1 HN.out HRR.out).mono ?_
        rintro e w8 ⟨rfl, gc⟩
        have HB' := Lib.hid (HB.out.gr0 gc)
        clear gc HB
        have HB := HB'
        clear HB' 
        go_wp2_with fail
        obtain ⟨Z, hZ⟩ : ∃ Z, Z = sumZ m := ⟨_, rfl⟩
        have HZ := Lib.hid hZ
        clear hZ
        with_reducible refine (eblocks_any m N Z a9 c9 w8 (sl2_parts HB.out.t1).2.1 HN.out HRR.out.small HZ.out).mono ?_
        rintro e w9 ⟨rfl, gc⟩
        have HB' := Lib.hid (HB.out.gr0 gc)
        clear gc HB
        have HB := HB'
        clear HB' 
        by_cases hZ2 : 2000 < Z
        · go_wp2_with fail
          go_roundw
          case rel => exact ⟨k + 1, by omega, by go_num, HB.out.g⟩
          case measure => simp [intOf]; omega
        · go_wp2_with fail
          obtain ⟨n, hn⟩ : ∃ n : Nat, (n : Int) = Z := ⟨Z.toNat, by rw [HZ.out]; have := sum_nonneg (l := m) (fun e he => (HRR.out.all e he).2.2.1); omega⟩
          have HLB := Lib.hid (show (blk m).length = n by have := blk_len (l := m) (fun e he => (HRR.out.all e he).2.2.1); rw [← HZ.out] at this; omega)
          have hn2000 : n ≤ 2000 := by omega
          subst hn
          with_reducible refine (rblocks_any m N a10 c10 w9 (sl2_parts HB.out.t2).2.1 HN.out (by omega) HRR.out.all).mono ?_
          rintro e w10 ⟨vb, rfl, ob, g10⟩
          rw [HLB.out] at ob
          obtain ⟨ab, cb, rfl⟩ := own_form ob
          have HRB := Lib.hid (own_rdZ ob)
          have HB' := Lib.hid (HB.out.gr0 g10)
          clear ob g10 HB
          have HB := HB'
          clear HB'
          have HPB := Lib.hid (posB_blk (l := m) (fun e he => ⟨(HRR.out.all e he).1, (HRR.out.all e he).2.2.1⟩))
          obtain ⟨b, hb⟩ : ∃ b, b = blk m := ⟨_, rfl⟩
          have HBM := Lib.hid hb
          rw [← hb] at HRB HLB HPB
          clear hb
          go_wp2_with fail
          go_loopw [12, 65] (fun x q wr => ∃ j : Nat, j ≤ n ∧ q = .int .i64 j ∧ x = .int .i64 (posB (b.take j)) ∧ Gr [] w10 wr) (fun _ q _ => n - (intOf q).toNat)
          case atStart => exact ⟨0, by omega, rfl, rfl, Gr.refl _ _⟩
          case round =>
            obtain ⟨j, hj, rfl, rfl, G⟩ := hrel
            by_cases hjn : j < n
            · have hjn2 : (j : Int) < (n : Int) := by omega
              obtain ⟨x, hx⟩ : ∃ x, b[j]? = some x := ⟨_, List.getElem?_eq_getElem (by have := HLB.out; omega)⟩
              obtain ⟨kb, o, hab, hkb, c1⟩ := HRB.out j _ hx
              have y0 : wr.cell? ⟨kb, o + j, none⟩ = some (.int .i64 x) := (G.cell0 hkb).trans c1
              have HG := Lib.hid (And.intro (HB.out.t1.gr0 G) G)
              have HX := Lib.hid (show (blk m)[j]? = some x by rw [← HBM.out]; exact hx)
              have HPT := Lib.hid (posB_take hx)
              obtain ⟨p, hp⟩ : ∃ p, p = posB (b.take j) := ⟨_, rfl⟩
              have hpb := posB_bd (b.take j)
              have hpl : ((b.take j).length : Int) ≤ 2000 := by rw [List.length_take]; omega
              rw [← hp] at hpb HPT ⊢
              subst hab
              clear c1 hx G hp hkb
              go_wp2_with fail
              with_reducible refine (emap_get m N j a9 c9 wr x (sl2_parts HG.out.1).2.1 HN.out HRR.out.small (by omega) HX.out).mono ?_
              rintro e wa ⟨rfl, ga⟩
              have HGA := Lib.hid (HG.out.2.next0 ga)
              clear ga HG y0
              by_cases hx0 : 0 ≤ x
              · have hw : IntKind.i64.wrap (p + 1) = p + 1 := IntWalk.i64_in _ (by omega)
                rw [if_pos hx0] at HPT
                go_wp2_with fail
                go_roundw
                case rel => exact ⟨j + 1, by omega, by go_num, by rw [HPT.out], HGA.out⟩
                case measure => simp [intOf]; omega
              · rw [if_neg hx0] at HPT
                go_wp2_with fail
                go_roundw
                case rel => exact ⟨j + 1, by omega, by go_num, by rw [HPT.out, Int.add_zero], HGA.out⟩
                case measure => simp [intOf]; omega
            · obtain rfl : j = n := by omega
              have ht : b.take j = b := by rw [← HLB.out]; exact List.take_length
              rw [ht, HPB.out]
              obtain ⟨hd, hhd⟩ : ∃ hd, hd = heldZ m := ⟨_, rfl⟩
              have HHD := Lib.hid hhd
              rw [← hhd]
              have HG0 := Lib.hid (HB.out.g.next0 G)
              have HB' := Lib.hid (GmB.mk (w2 := wr) (HB.out.t1.gr0 G) (HB.out.t2.gr0 G) (Gr.refl [] wr))
              have HRB' := Lib.hid (HRB.out.gr0 G)
              clear HB HRB G ht hhd
              have HB := HB'
              have HRB := HRB'
              clear HB' HRB'
              have HM1 := Lib.hid (fun W (q : Rd2 W a9 m) => map_out m N (j : Int) a9 c9 W q HN.out HRR.out.small (by omega) (.inr (by have := HLB.out; rw [HBM.out] at this; omega)))
              have HM2 := Lib.hid (fun W (q : Rd2 W a9 m) => map_out m N (-1) a9 c9 W q HN.out HRR.out.small (by omega) (.inl (by omega)))
              go_wp2_with fail
              with_reducible refine (HM1.out wr (sl2_parts HB.out.t1).2.1).mono ?_
              rintro e wr1 ⟨rfl, gc⟩
              have HB' := Lib.hid (HB.out.gr0 gc)
              clear gc HB
              have HB := HB'
              clear HB' 
              go_wp2_with fail
              with_reducible refine (HM2.out wr1 (sl2_parts HB.out.t1).2.1).mono ?_
              rintro e wr2 ⟨rfl, gc⟩
              have HB' := Lib.hid (HB.out.gr0 gc)
              clear gc HB
              have HB := HB'
              clear HB' 
              go_wp2_with fail
              rcases Int.lt_or_le i 0 with hA | hA
              · have HM3 := Lib.hid (fun W (q : Rd2 W a9 m) => map_out m N i a9 c9 W q HN.out HRR.out.small hi (.inl hA))
                have hA2 : ¬ 0 ≤ i := by omega
                with_reducible refine (HM3.out wr2 (sl2_parts HB.out.t1).2.1).mono ?_
                rintro e wr3 ⟨rfl, gc⟩
                have HB' := Lib.hid (HB.out.gr0 gc)
                clear gc HB
                have HB := HB'
                clear HB' 
                go_wp2_with fail
                with_reducible refine (etext_yes m N S a9 c9 wr3 (sl2_parts HB.out.t1).2.1 HN.out HRR.out HS.out).mono ?_
                rintro e wr4 ⟨rfl, gc⟩
                have HB' := Lib.hid (HB.out.gr0 gc)
                clear gc HB
                have HB := HB'
                clear HB' 
                go_wp2_with fail
                with_reducible refine (eparse_of m S wr4 HRR.out HS.out).mono ?_
                rintro e wr5 ⟨aP, cP, rfl, sP, gc⟩
                have HB' := Lib.hid (HB.out.gr0 gc)
                have HP := Lib.hid sP
                clear gc HB sP
                have HB := HB'
                clear HB'
                rw [← HN.out]
                go_wp2_with fail
                with_reducible refine (eblocks_any m N (j : Int) a9 c9 wr5 (sl2_parts HB.out.t1).2.1 HN.out HRR.out.small HZ.out).mono ?_
                rintro e wr6 ⟨rfl, gc⟩
                have HB' := Lib.hid (And.intro (HB.out.gr0 gc) (HP.out.gr0 gc))
                clear gc HB HP
                go_wp2_with fail
                with_reducible refine (eheld_any m N hd a9 c9 wr6 (sl2_parts HB'.out.1.t1).2.1 HN.out HRR.out.small HHD.out).mono ?_
                rintro e wr7 ⟨rfl, gc⟩
                have HB := Lib.hid (And.intro (HB'.out.1.gr0 gc) (HB'.out.2.gr0 gc))
                clear gc HB'
                go_wp2_with fail
                refine (esame_sl2 m _ _ wr7 (by rw [HN.out]; exact HB.out.2) (by rw [HN.out]; exact HB.out.1.t2) (by have := HN.out; omega)).mono ?_
                rintro e wr8 ⟨rfl, gc⟩
                have HF := Lib.hid (HG0.out.next0 (HB.out.1.g.next0 gc))
                clear gc HB
                go_wp2_with fail
                go_roundw
                case rel => exact ⟨k + 1, by omega, by go_num, HF.out⟩
                case measure => simp [intOf]; omega
              · rcases Int.lt_or_le i (j : Int) with hC | hC
                · obtain ⟨I, rfl⟩ := Int.eq_ofNat_of_zero_le hA
                  obtain ⟨x, hx⟩ : ∃ x, b[I]? = some x := ⟨_, List.getElem?_eq_getElem (by have := HLB.out; omega)⟩
                  obtain ⟨kb, o, hab, hkb, c1⟩ := HRB.out I _ hx
                  have HC1 := Lib.hid (And.intro hkb c1)
                  subst hab
                  have HM3 := Lib.hid (fun W (q : Rd2 W a9 m) => emap_get m N I a9 c9 W x q HN.out HRR.out.small (by omega) (by rw [← HBM.out]; exact hx))
                  clear hx hkb c1
                  with_reducible refine (HM3.out wr2 (sl2_parts HB.out.t1).2.1).mono ?_
                  rintro e wr3 ⟨rfl, gc⟩
                  have HB' := Lib.hid (HB.out.gr0 gc)
                  clear gc HB
                  have HB := HB'
                  clear HB' 
                  go_wp2_with fail
                  with_reducible refine (etext_yes m N S a9 c9 wr3 (sl2_parts HB.out.t1).2.1 HN.out HRR.out HS.out).mono ?_
                  rintro e wr4 ⟨rfl, gc⟩
                  have HB' := Lib.hid (HB.out.gr0 gc)
                  clear gc HB
                  have HB := HB'
                  clear HB' 
                  go_wp2_with fail
                  with_reducible refine (eparse_of m S wr4 HRR.out HS.out).mono ?_
                  rintro e wr5 ⟨aP, cP, rfl, sP, gc⟩
                  have HB' := Lib.hid (HB.out.gr0 gc)
                  have HP := Lib.hid sP
                  clear gc HB sP
                  have HB := HB'
                  clear HB'
                  rw [← HN.out]
                  have c1 : wr5.cell? ⟨kb, o + I, none⟩ = some (.int .i64 x) := (HB.out.g.cell0 HC1.out.1).trans HC1.out.2
                  go_wp2_with fail
                  with_reducible refine (eblocks_any m N (j : Int) a9 c9 wr5 (sl2_parts HB.out.t1).2.1 HN.out HRR.out.small HZ.out).mono ?_
                  rintro e wr6 ⟨rfl, gc⟩
                  have HB' := Lib.hid (And.intro (HB.out.gr0 gc) (HP.out.gr0 gc))
                  clear gc HB HP
                  go_wp2_with fail
                  with_reducible refine (eheld_any m N hd a9 c9 wr6 (sl2_parts HB'.out.1.t1).2.1 HN.out HRR.out.small HHD.out).mono ?_
                  rintro e wr7 ⟨rfl, gc⟩
                  have HB := Lib.hid (And.intro (HB'.out.1.gr0 gc) (HB'.out.2.gr0 gc))
                  clear gc HB'
                  go_wp2_with fail
                  refine (esame_sl2 m _ _ wr7 (by rw [HN.out]; exact HB.out.2) (by rw [HN.out]; exact HB.out.1.t2) (by have := HN.out; omega)).mono ?_
                  rintro e wr8 ⟨rfl, gc⟩
                  have HF := Lib.hid (HG0.out.next0 (HB.out.1.g.next0 gc))
                  clear gc HB
                  go_wp2_with fail
                  go_roundw
                  case rel => exact ⟨k + 1, by omega, by go_num, HF.out⟩
                  case measure => simp [intOf]; omega
                · have HM3 := Lib.hid (fun W (q : Rd2 W a9 m) => map_out m N i a9 c9 W q HN.out HRR.out.small hi (.inr (by have := HLB.out; rw [HBM.out] at this; omega)))
                  have hC2 : ¬ i < (j : Int) := by omega
                  with_reducible refine (HM3.out wr2 (sl2_parts HB.out.t1).2.1).mono ?_
                  rintro e wr3 ⟨rfl, gc⟩
                  have HB' := Lib.hid (HB.out.gr0 gc)
                  clear gc HB
                  have HB := HB'
                  clear HB' 
                  go_wp2_with fail
                  with_reducible refine (etext_yes m N S a9 c9 wr3 (sl2_parts HB.out.t1).2.1 HN.out HRR.out HS.out).mono ?_
                  rintro e wr4 ⟨rfl, gc⟩
                  have HB' := Lib.hid (HB.out.gr0 gc)
                  clear gc HB
                  have HB := HB'
                  clear HB' 
                  go_wp2_with fail
                  with_reducible refine (eparse_of m S wr4 HRR.out HS.out).mono ?_
                  rintro e wr5 ⟨aP, cP, rfl, sP, gc⟩
                  have HB' := Lib.hid (HB.out.gr0 gc)
                  have HP := Lib.hid sP
                  clear gc HB sP
                  have HB := HB'
                  clear HB'
                  rw [← HN.out]
                  go_wp2_with fail
                  with_reducible refine (eblocks_any m N (j : Int) a9 c9 wr5 (sl2_parts HB.out.t1).2.1 HN.out HRR.out.small HZ.out).mono ?_
                  rintro e wr6 ⟨rfl, gc⟩
                  have HB' := Lib.hid (And.intro (HB.out.gr0 gc) (HP.out.gr0 gc))
                  clear gc HB HP
                  go_wp2_with fail
                  with_reducible refine (eheld_any m N hd a9 c9 wr6 (sl2_parts HB'.out.1.t1).2.1 HN.out HRR.out.small HHD.out).mono ?_
                  rintro e wr7 ⟨rfl, gc⟩
                  have HB := Lib.hid (And.intro (HB'.out.1.gr0 gc) (HB'.out.2.gr0 gc))
                  clear gc HB'
                  go_wp2_with fail
                  refine (esame_sl2 m _ _ wr7 (by rw [HN.out]; exact HB.out.2) (by rw [HN.out]; exact HB.out.1.t2) (by have := HN.out; omega)).mono ?_
                  rintro e wr8 ⟨rfl, gc⟩
                  have HF := Lib.hid (HG0.out.next0 (HB.out.1.g.next0 gc))
                  clear gc HB
                  go_wp2_with fail
                  go_roundw
                  case rel => exact ⟨k + 1, by omega, by go_num, HF.out⟩
                  case measure => simp [intOf]; omega
      · have HRR := Lib.hid hR
        clear hR
        with_reducible refine (eright_no m N a9 c9 w3 (sl2_parts HB.out.t1).2.1 HN.out HRR.out).mono ?_
        rintro e w4 ⟨rfl, gc⟩
        have HB' := Lib.hid (HB.out.gr0 gc)
        clear gc HB
        have HB := HB'
        clear HB' 
        go_wp2_with fail
        with_reducible refine (rright15_no m N a10 c10 w4 (sl2_parts HB.out.t2).2.1 HN.out HRR.out).mono ?_
        rintro e w5 ⟨rfl, gc⟩
        have HB' := Lib.hid (HB.out.gr0 gc)
        clear gc HB
        have HB := HB'
        clear HB' 
        go_wp2_with fail
        with_reducible refine (etext_no m N a9 c9 w5 (sl2_parts HB.out.t1).2.1 HN.out HRR.out).mono ?_
        rintro e w6 ⟨rfl, gc⟩
        have HB' := Lib.hid (HB.out.gr0 gc)
        clear gc HB
        have HB := HB'
        clear HB' 
        go_wp2_with fail
        with_reducible refine (rtext_no m N a10 c10 w6 (sl2_parts HB.out.t2).2.1 HN.out HRR.out).mono ?_
        rintro e w7 ⟨rfl, gc⟩
        have HB' := Lib.hid (HB.out.gr0 gc)
        clear gc HB
        have HB := HB'
        clear HB' 
        go_wp2_with fail
        with_reducible refine (rright15_no m N a10 c10 w7 (sl2_parts HB.out.t2).2.1 HN.out HRR.out).mono ?_
        rintro e w8 ⟨rfl, gc⟩
        have HB' := Lib.hid (HB.out.gr0 gc)
        clear gc HB
        have HB := HB'
        clear HB' 
        go_wp2_with fail
        go_roundw
        case rel => exact ⟨k + 1, by omega, by go_num, HB.out.g⟩
        case measure => simp [intOf]; omega
    · obtain rfl : k = 2 := by omega
      obtain ⟨q, hq⟩ : ∃ q, q = min s.size 600 := ⟨_, rfl⟩
      have hmn := minZ Try.prog (s.size : Int) 600 (q : Int) (by omega)
      have hqs : q ≤ s.size := by omega
      have hqs2 : (q : Int) ≤ (s.size : Int) := by omega
      have hq600 : q ≤ 600 := by omega
      have HE := Lib.hid (H2.out.2.2.next0 G)
      clear G hq
      go_wp2_with fail
      have hXs : (s.extract 0 q).size ≤ maxLen := by rw [ByteArray.size_extract]; unfold maxLen; omega
      generalize s.extract 0 q = X at *
      have HXP := Lib.hid (eparse_any X wr hXs)
      clear hXs hmn hqs hqs2 hq600
      with_reducible refine HXP.out.mono ?_
      rintro e w5 ⟨g5, ⟨T, aP, cP, rfl, sP, hR, hb⟩ | ⟨_, rfl⟩⟩
      · have H5 := Lib.hid (And.intro sP (HE.out.next0 g5))
        have HRT := Lib.hid hR
        have HTB := Lib.hid hb
        clear sP g5 hR hb HXP
        go_wp2_with fail
        with_reducible refine (ewakes15 w5).mono ?_
        rintro e w6 ⟨rfl, g6⟩
        have H6 := Lib.hid (And.intro (H5.out.1.gr0 g6) (H5.out.2.next0 g6))
        clear g6 H5
        go_wp2_with fail
        with_reducible refine (etext_yes T T.length X aP cP w6 (sl2_parts H6.out.1).2.1 rfl HRT.out HTB.out).mono ?_
        rintro e w7 ⟨rfl, g7⟩
        have H7 := Lib.hid (And.intro (H6.out.1.gr0 g7) (H6.out.2.next0 g7))
        clear g7 H6
        go_wp2_with fail
        with_reducible refine (eright_yes T T.length aP cP w7 (sl2_parts H7.out.1).2.1 rfl HRT.out).mono ?_
        rintro e w8 ⟨rfl, g8⟩
        have H8 := Lib.hid (H7.out.2.next0 g8)
        clear g8 H7
        go_wp2_with fail
        go_ret
        exact ⟨rfl, H8.out⟩
      · have H5 := Lib.hid (HE.out.next0 g5)
        clear g5 HXP
        go_wp2_with fail
        with_reducible refine (ewakes15 w5).mono ?_
        rintro e w6 ⟨rfl, g6⟩
        have H6 := Lib.hid (H5.out.next0 g6)
        clear g6 H5
        go_wp2_with fail
        go_ret
        exact ⟨rfl, H6.out⟩

theorem walk_ExtMaps (v0 : Value) (a1 : Int) (s2 : ByteArray) {w : World} (s0 : SlN 2 w v0) (w1 : (Lit.int .i64 a1).wf = true) (w2 : s2.size ≤ maxLen) (_ : s2.size ≤ reachBytes) :
    Calls Try.prog 10 #[v0, .int .i64 a1, .string s2] w fun e w' => e = .returned (.bool true) ∧ Below w.heap.size w w' := by
  obtain ⟨l, hl, _⟩ := src_of s0
  exact (emaps_any l v0 a1 s2 w hl (bounds_i64 w1).2 w2).mono fun _ _ q => ⟨q.1, q.2.below0⟩

end Go.Proofs.Ytpkhfdcokcchdaa
