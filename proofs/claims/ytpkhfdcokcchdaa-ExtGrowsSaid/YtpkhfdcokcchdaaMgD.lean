/-
  MgD: ExQ, ExR, ExS, ExT, ExU, ExV.
-/
import Derived.Test.YtpkhfdcokcchdaaMgC

/-
  Layer 15: the reference's Blocks.
-/
namespace Go.Proofs.Ytpkhfdcokcchdaa
open Go.RowKit

set_option maxHeartbeats 4000000 in
set_option maxRecDepth 20000 in
theorem rblocks_any (l : List (Int × Int)) (N : Nat) (ao : Option Addr) (cap : Nat) (w : World) (h : Rd2 w ao l) (hN : N = l.length) (hN70 : N ≤ 70) (hr : ∀ e ∈ l, -1 ≤ e.1 ∧ e.1 ≤ 65536 ∧ 1 ≤ e.2 ∧ e.2 ≤ 65536) :
    Calls Try.prog 47 #[.slice ao N cap] w fun e w' => ∃ v, e = .returned v ∧ w'.ownsRow w.heap.size 3 1 v (blk l).length (cellsZ (blk l)) ∧ Gr [] w w' := by
  obtain ⟨i0, hi0, hz0, hz1, hz2⟩ := info_parts infoI15
  have HR := Lib.hid h
  have HN := Lib.hid hN
  have HB := Lib.hid hr
  clear h hN hr
  go_enter Try.func47, Try.ntmps47
  go_wp2_with fail
  go_loopw [3, 4] (fun v i wr => ∃ k : Nat, k ≤ N ∧ i = .int .i64 k ∧ wr.ownsRow w.heap.size 3 1 v (blk (l.take k)).length (cellsZ (blk (l.take k))) ∧ Gr [] w wr) (fun _ i _ => N - (intOf i).toNat)
  case atStart => exact ⟨0, by omega, rfl, World.ownsRow_nil _ _ _ _, Gr.refl _ _⟩
  case round =>
    obtain ⟨k, hk, rfl, ho, G⟩ := hrel
    have HQ := Lib.hid (And.intro ho G)
    have hsz := G.size
    clear ho G
    by_cases hkN : k < N
    · have hkN2 : (k : Int) < (N : Int) := by omega
      obtain ⟨⟨x1, x2⟩, hx⟩ : ∃ x, l[k]? = some x := ⟨_, List.getElem?_eq_getElem (by have := HN.out; omega)⟩
      obtain ⟨b, o, hao, hb, c1, c2⟩ := HR.out k _ hx
      subst hao
      have HC := Lib.hid (And.intro hb (And.intro c1 c2))
      have hbd := HB.out _ (List.mem_of_getElem? hx)
      simp only at hbd
      have HTK := Lib.hid (show blk (l.take (k + 1)) = blk (l.take k) ++ blkR (x1, x2) by
        rw [take_snoc hx, blk_append]; simp [blk])
      have hl1 := blk_len (l := l.take k) (fun e he => (HB.out e (List.mem_of_mem_take he)).2.2.1)
      have hl2 := (small_sum (l := l) (fun e he => ⟨(HB.out e he).2.2.1, (HB.out e he).2.2.2⟩) k).2.1
      obtain ⟨P0, hP0⟩ : ∃ P0, P0 = blk (l.take k) := ⟨_, rfl⟩
      rw [← hP0] at HQ HTK hl1
      have HPL := Lib.hid (show P0.length ≤ 5000000 by omega)
      clear c1 c2 hx hl1 hl2 hP0
      obtain ⟨n, rfl⟩ : ∃ n : Nat, x2 = (n : Int) := ⟨x2.toNat, by omega⟩
      go_wp2_with fail
      go_loopw [3, 5] (fun v i wr => ∃ (j : Nat) (C : List Int), j ≤ n ∧ i = .int .i64 j ∧ Hid (C = P0 ++ blkR (x1, (j : Int))) ∧ wr.ownsRow w.heap.size 3 1 v C.length (cellsZ C) ∧ Gr [] w wr) (fun _ i _ => n - (intOf i).toNat)
      case atStart => exact ⟨0, P0, by omega, rfl, Lib.hid (by simp [blkR]), HQ.out.1, HQ.out.2⟩
      case round =>
        clear HQ hsz
        obtain ⟨j, C, hj, rfl, HCC, ho, G⟩ := hrel
        have HQ2 := Lib.hid (And.intro ho G)
        have hsz2 := G.size
        have y0 : wr.cell? ⟨b, o + k * 2, none⟩ = some (.int .i64 x1) := (G.cell0 HC.out.1).trans HC.out.2.1
        have y1 : wr.cell? ⟨b, o + k * 2 + 1, none⟩ = some (.int .i64 n) := (G.cell0 HC.out.1).trans HC.out.2.2
        clear ho G
        by_cases hjn : j < n
        · have hjn2 : (j : Int) < (n : Int) := by omega
          have hCl : C.length ≤ 5100000 := by
            rw [HCC.out, List.length_append, blkR_len]
            have := HPL.out
            simp only
            omega
          by_cases hneg : x1 = -1
          · subst hneg
            have HUP := Lib.hid (show C ++ [-1] = P0 ++ blkR (-1, ((j + 1 : Nat) : Int)) by
              rw [show ((j + 1 : Nat) : Int) = (j : Int) + 1 by omega, blkR_up, HCC.out, List.append_assoc]
              simp)
            have HN3 := Lib.hid (Holds.new wr #[.int .i64 (-1)] 3)
            have HO3 := Lib.hid (HQ2.out.1.alloc (Obj.cells #[.int .i64 (-1)] 3))
            have hone : ∀ u ∈ [Value.int .i64 (-1)], u.oneCell' = true := by simp [Value.oneCell']
            go_wp2_with (at_builtin; refine wpList_append_own _ rfl _ _ 47 rfl w.heap.size 3 i0 _ 1 8 Try.underlying47 hi0 hz0 hz1 hz2 rfl (by decide) _ _ _ rfl HO3.out ⟨wr.heap.size, 0, none⟩ 1 1 [.int .i64 (-1)] rfl rfl (World.news_of_block HN3.out) hone (by unfold maxLen; omega) (by omega) (by rw [World.size_alloc]; omega) ?_)
            intro v4 w4 hown4 hgrow4 _
            have hlt4 := HO3.out.lt
            have HF := Lib.hid (And.intro (show w4.ownsRow w.heap.size 3 1 v4 (C ++ [-1]).length (cellsZ (C ++ [-1])) by
              rw [List.length_append, cellsZ_append]; exact hown4) ((HQ2.out.2.alloc (Obj.cells #[.int .i64 (-1)] 3)).nextN (gr_grown hgrow4) (fun x hx => .inr (hlt4 x (by simpa using hx)).1)))
            clear hown4 hgrow4 hlt4 HO3 HN3 hone y0 y1
            go_wp2_with fail
            go_roundw
            case rel => exact ⟨j + 1, C ++ [-1], by omega, by go_num, HUP, HF.out.1, HF.out.2⟩
            case measure => simp [intOf]; omega
          · have hd : (x1 == -1) = false := by simp [hneg]
            have HUP := Lib.hid (show C ++ [x1 + (j : Int)] = P0 ++ blkR (x1, ((j + 1 : Nat) : Int)) by
              rw [show ((j + 1 : Nat) : Int) = (j : Int) + 1 by omega, blkR_up, HCC.out, List.append_assoc]
              rw [if_neg hneg])
            have hw : IntKind.i64.wrap (x1 + (j : Int)) = x1 + (j : Int) := IntWalk.i64_in _ (by omega)
            have HN3 := Lib.hid (Holds.new wr #[.int .i64 (x1 + (j : Int))] 3)
            have HO3 := Lib.hid (HQ2.out.1.alloc (Obj.cells #[.int .i64 (x1 + (j : Int))] 3))
            have hone : ∀ u ∈ [Value.int .i64 (x1 + (j : Int))], u.oneCell' = true := by simp [Value.oneCell']
            go_wp2_with (at_builtin; refine wpList_append_own _ rfl _ _ 47 rfl w.heap.size 3 i0 _ 1 8 Try.underlying47 hi0 hz0 hz1 hz2 rfl (by decide) _ _ _ rfl HO3.out ⟨wr.heap.size, 0, none⟩ 1 1 [.int .i64 (x1 + (j : Int))] rfl rfl (World.news_of_block HN3.out) hone (by unfold maxLen; omega) (by omega) (by rw [World.size_alloc]; omega) ?_)
            intro v4 w4 hown4 hgrow4 _
            have hlt4 := HO3.out.lt
            have HF := Lib.hid (And.intro (show w4.ownsRow w.heap.size 3 1 v4 (C ++ [x1 + (j : Int)]).length (cellsZ (C ++ [x1 + (j : Int)])) by
              rw [List.length_append, cellsZ_append]; exact hown4) ((HQ2.out.2.alloc (Obj.cells #[.int .i64 (x1 + (j : Int))] 3)).nextN (gr_grown hgrow4) (fun x hx => .inr (hlt4 x (by simpa using hx)).1)))
            clear hown4 hgrow4 hlt4 HO3 HN3 hone y0 y1
            go_wp2_with fail
            go_roundw
            case rel => exact ⟨j + 1, C ++ [x1 + (j : Int)], by omega, by go_num, HUP, HF.out.1, HF.out.2⟩
            case measure => simp [intOf]; omega
        · obtain rfl : j = n := by omega
          have HF := Lib.hid (show wr.ownsRow w.heap.size 3 1 u3 (blk (l.take (k + 1))).length (cellsZ (blk (l.take (k + 1)))) by
            rw [HTK.out, ← HCC.out]; exact HQ2.out.1)
          go_wp2_with fail
          go_roundw
          case rel => exact ⟨k + 1, by omega, by go_num, HF.out, HQ2.out.2⟩
          case measure => simp [intOf]; omega
    · obtain rfl : k = N := by omega
      have ht : l.take k = l := by rw [HN.out]; exact List.take_length
      rw [ht] at HQ
      go_wp2_with fail
      go_ret
      exact ⟨_, rfl, HQ.out.1, HQ.out.2⟩

end Go.Proofs.Ytpkhfdcokcchdaa

/-
  Layer 15: the reference's Cut.
-/
namespace Go.Proofs.Ytpkhfdcokcchdaa
open Go.RowKit

theorem first_runs {l : List (Int × Int)} (h : Right15 l) {k : Nat} (hk : (k : Int) ≤ sumZ l) : runsP ((blk l).take k) = firstP l k := by
  have h1 := split_blk (l := l) (n := (k : Int)) (by omega) (fun e he => ⟨(h.all e he).1, (h.all e he).2.2.1⟩)
  have h2 := (sum_first h hk).2.runs
  rw [h1.1] at h2
  exact h2
theorem rest_runs {l : List (Int × Int)} (h : Right15 l) (k : Nat) : runsP ((blk l).drop k) = restP l k := by
  have h1 := split_blk (l := l) (n := (k : Int)) (by omega) (fun e he => ⟨(h.all e he).1, (h.all e he).2.2.1⟩)
  have h2 := split_ok (l := l) (n := (k : Int)) (B := 65536) (by omega) h.all h.apart
  have h3 := runs_blk (restP l k) (fun e he => ⟨(h2.2.1 e he).1, (h2.2.1 e he).2.2.1⟩)
  rw [join_apart _ h2.2.2.2.1, h1.2] at h3
  exact h3
theorem RdZ.take {w : World} {ao : Option Addr} {b : List Int} (h : RdZ w ao b) (n : Nat) : RdZ w ao (b.take n) := fun i x hi => by
  have hlt : i < n := by
    have := (List.getElem?_eq_some_iff.1 hi).1
    simp at this; omega
  rw [List.getElem?_take_of_lt hlt] at hi
  exact h i x hi
theorem RdZ.drop {w : World} {b o : Nat} {l : List Int} (h : RdZ w (some ⟨b, o, none⟩) l) (n : Nat) : RdZ w (some ⟨b, o + n, none⟩) (l.drop n) := fun i x hi => by
  rw [List.getElem?_drop] at hi
  obtain ⟨b', o', hb, h1, h2⟩ := h (n + i) x hi
  injection hb with hb
  injection hb with e1 e2
  subst e1 e2
  exact ⟨b, o + n, rfl, h1, by rw [show o + n + i = o + (n + i) by omega]; exact h2⟩

set_option maxHeartbeats 2000000 in
set_option maxRecDepth 20000 in
theorem rcut_yes (l : List (Int × Int)) (N n : Nat) (ao : Option Addr) (cap : Nat) (w : World) (h : Rd2 w ao l) (hN : N = l.length) (hr : Right15 l) (hn : (n : Int) ≤ sumZ l) :
    Calls Try.prog 58 #[.slice ao N cap, .int .i64 n] w fun e w' => ∃ vA vF, e = .returned (.tuple #[vA, vF, .int .i64 0]) ∧ Sl2 w' vA (firstP l n) ∧ Sl2 w' vF ((restP l n).filter solidB) ∧ Gr [] w w' := by
  obtain ⟨i0, hi0, hz0, hz1, hz2⟩ := info_parts infoP2
  have HC := Lib.hid (rright15_yes l N ao cap w h hN hr)
  have hlen := blk_len (l := l) (fun e he => (hr.all e he).2.2.1)
  have hs := hr.2.2
  obtain ⟨M, hM⟩ : ∃ M, M = (blk l).length := ⟨_, rfl⟩
  have hnM : n ≤ M := by omega
  have hM2 : M ≤ 65536 := by omega
  have HM := Lib.hid hM
  have HPA := Lib.hid (first_runs hr hn)
  have HPB := Lib.hid (rest_runs hr n)
  have HRL := Lib.hid (show (restP l n).length ≤ 64 by
    have := (split_ok (l := l) (n := (n : Int)) (B := 65536) (by omega) hr.all hr.apart).2.2.2.2.2.1
    have := hr.1
    omega)
  have HBM := Lib.hid (show ∀ x ∈ blk l, -1 ≤ x ∧ x ≤ 1000000 by
    intro x hx
    obtain ⟨e, he, hxe⟩ := List.mem_flatMap.1 hx
    have := hr.all e he
    rcases blkR_mem hxe with q | q <;> omega)
  have HLA := Lib.hid (show n = ((blk l).take n).length by rw [List.length_take]; omega)
  have HLB := Lib.hid (show M - n = ((blk l).drop n).length by rw [List.length_drop]; omega)
  have HBK := Lib.hid (fun W (g : Gr [] w W) => rblocks_any l N ao cap W (h.gr0 g) hN (by have := hr.1; omega) hr.all)
  obtain ⟨R, hR⟩ : ∃ R, R = restP l n := ⟨_, rfl⟩
  rw [← hR] at HPB HRL
  rw [← hR]
  have d1 : ¬ (n : Int) < 0 := by omega
  have d2 : ¬ (M : Int) < (n : Int) := by omega
  clear h hN hr hn hlen hs hM hR
  go_enter Try.func58, Try.ntmps58
  go_wp2_with fail
  refine HC.out.mono ?_
  rintro e w1 ⟨rfl, g1⟩
  have H1 := Lib.hid g1
  clear g1 HC
  go_wp2_with fail
  refine (HBK.out _ H1.out).mono ?_
  rintro e w2 ⟨vb, rfl, o2, g2⟩
  have H2 := Lib.hid (H1.out.next0 g2)
  clear g2 HBK H1
  rw [← HM.out] at o2
  rcases o2.2 with ⟨q1, q2⟩ | ⟨g, cp, cur, q, hgb, hgs, hcp, h2, h3, h4⟩
  · subst q1
    have hM0 : M = 0 := by simpa using q2
    obtain rfl : n = 0 := by omega
    subst hM0
    have HRZ := Lib.hid (show RdZ w2 none (blk l) from fun i x hi => by
      have := (List.getElem?_eq_some_iff.1 hi).1
      have := HM.out
      omega)
    have HRT := Lib.hid (HRZ.out.take 0)
    have HRD := Lib.hid (show RdZ w2 none ((blk l).drop 0) by rw [List.drop_zero]; exact HRZ.out)
    clear o2 d1 d2 q2
    have HRA := Lib.hid (fun W (gg : Gr [] w2 W) => rruns_any ((blk l).take 0) 0 none 0 W (HRT.out.gr0 gg) HLA.out (fun x hx => HBM.out x (List.mem_of_mem_take hx)) (by omega))
    have HRB := Lib.hid (fun W (gg : Gr [] w2 W) => rruns_any ((blk l).drop 0) 0 none 0 W (HRD.out.gr0 gg) HLB.out (fun x hx => HBM.out x (List.mem_of_mem_drop hx)) (by omega))
    go_wp2_with fail
    refine (HRA.out _ (Gr.refl _ _)).mono ?_
    rintro e w3 ⟨vA, rfl, oA, g3⟩
    have H3 := Lib.hid (And.intro oA g3)
    clear oA g3 HRA
    go_wp2_with fail
    refine (HRB.out _ H3.out.2).mono ?_
    rintro e w4 ⟨vB, rfl, oB, g4⟩
    rw [HPA.out] at H3
    rw [HPB.out] at oB
    obtain ⟨aB, cB, rfl, rB, -, -⟩ := own_parts oB
    have H4 := Lib.hid (And.intro (own_gr0 H3.out.1 g4) (And.intro rB (H2.out.next0 (H3.out.2.next0 g4))))
    clear oB g4 H3 HRB rB
    go_wp2_with fail
    go_loopw [11, 12] (fun v i wr => ∃ k : Nat, k ≤ R.length ∧ i = .int .i64 k ∧ wr.ownsRow w4.heap.size 44 2 v ((R.take k).filter solidB).length (cells2 ((R.take k).filter solidB)) ∧ Gr [] w4 wr) (fun _ i _ => R.length - (intOf i).toNat)
    case atStart => exact ⟨0, by omega, rfl, World.ownsRow_nil _ _ _ _, Gr.refl _ _⟩
    case round =>
      obtain ⟨k, hk, rfl, ho, G⟩ := hrel
      have HQ := Lib.hid (And.intro ho G)
      have hsz := G.size
      clear ho G
      by_cases hkR : k < R.length
      · have hkR2 : (k : Int) < (R.length : Int) := by omega
        obtain ⟨⟨x1, x2⟩, hx⟩ : ∃ x, R[k]? = some x := ⟨_, List.getElem?_eq_getElem hkR⟩
        obtain ⟨b, o, hao, hb, c1, c2⟩ := H4.out.2.1 k _ hx
        subst hao
        have y0 : wr.cell? ⟨b, o + k * 2, none⟩ = some (.int .i64 x1) := (HQ.out.2.cell0 hb).trans c1
        have y1 : wr.cell? ⟨b, o + k * 2 + 1, none⟩ = some (.int .i64 x2) := (HQ.out.2.cell0 hb).trans c2
        have HTK := Lib.hid (show (R.take (k + 1)).filter solidB = (R.take k).filter solidB ++ (if x1 = -1 then [] else [(x1, x2)]) by
          rw [take_snoc hx, List.filter_append]
          congr 1
          unfold solidB
          by_cases q : x1 = -1 <;> simp [q])
        have hfl := List.length_filter_le solidB (R.take k)
        have hfl2 : (R.take k).length ≤ R.length := by rw [List.length_take]; omega
        have hRl := HRL.out
        by_cases hneg : x1 = -1
        · have hd : (x1 == -1) = true := by simp [hneg]
          rw [if_pos hneg, List.append_nil] at HTK
          clear c1 c2 hx hneg
          go_wp2_with fail
          go_roundw
          case rel => exact ⟨k + 1, by omega, by go_num, by rw [HTK.out]; exact HQ.out.1, HQ.out.2⟩
          case measure => simp [intOf]; omega
        · have hd : (x1 == -1) = false := by simp [hneg]
          rw [if_neg hneg] at HTK
          clear c1 c2 hx
          obtain ⟨P, hP⟩ : ∃ P, P = (R.take k).filter solidB := ⟨_, rfl⟩
          rw [← hP] at HQ HTK hfl
          have HN3 := Lib.hid (Holds.new wr #[.int .i64 x1, .int .i64 x2] 44)
          have HO3 := Lib.hid (HQ.out.1.alloc (Obj.cells #[.int .i64 x1, .int .i64 x2] 44))
          clear hP
          go_wp2_with (at_builtin; refine wpList_append_own _ rfl _ _ 39 rfl w4.heap.size 44 i0 _ 2 16 Try.underlying39 hi0 hz0 hz1 hz2 rfl (by decide) _ _ _ rfl HO3.out ⟨wr.heap.size, 0, none⟩ 1 1 [.int .i64 x1, .int .i64 x2] rfl rfl (World.news_of_block HN3.out) (cells2_one2 x1 x2) (by unfold maxLen; omega) (by omega) (by rw [World.size_alloc]; omega) ?_)
          intro v5 w5 hown5 hgrow5 _
          have hlt5 := HO3.out.lt
          have HF := Lib.hid (And.intro (show w5.ownsRow w4.heap.size 44 2 v5 (P ++ [(x1, x2)]).length (cells2 (P ++ [(x1, x2)])) by
            rw [List.length_append, cells2_append]; exact hown5) ((HQ.out.2.alloc (Obj.cells #[.int .i64 x1, .int .i64 x2] 44)).nextN (gr_grown hgrow5) (fun x hx => .inr (hlt5 x (by simpa using hx)).1)))
          clear hown5 hgrow5 hlt5 HO3 HN3 y0 y1
          go_wp2_with fail
          go_roundw
          case rel => exact ⟨k + 1, by omega, by go_num, by rw [HTK.out]; exact HF.out.1, HF.out.2⟩
          case measure => simp [intOf]; omega
      · obtain rfl : k = R.length := by omega
        rw [List.take_length] at HQ
        have HFIN := Lib.hid (And.intro (own_sl2 (own_gr0 H4.out.1 HQ.out.2)) (And.intro (own_sl2 HQ.out.1) (H4.out.2.2.next0 HQ.out.2)))
        go_wp2_with fail
        exact bodyPost_ret (v := .tuple #[vA, u11, .int .i64 0]) (by simp [results, Try.results58, go_sem]) rfl ⟨vA, _, rfl, HFIN.out.1, HFIN.out.2.1, HFIN.out.2.2⟩
  · subst q
    have HRZ := Lib.hid (own_rdZ (show w2.ownsRow w1.heap.size 3 1 (.slice (some ⟨g, 0, none⟩) M cp) M (cellsZ (blk l)) from o2))
    have HRT := Lib.hid (HRZ.out.take n)
    have HRD := Lib.hid (HRZ.out.drop n)
    have hncp : n ≤ cp := by omega
    have hcpM : cp ≤ maxLen := h2
    unfold maxLen at hcpM
    clear o2 hgb hgs h2 h3 h4 cur
    have HRA := Lib.hid (fun W (gg : Gr [] w2 W) => rruns_any ((blk l).take n) n (some ⟨g, 0, none⟩) cp W (HRT.out.gr0 gg) HLA.out (fun x hx => HBM.out x (List.mem_of_mem_take hx)) (by omega))
    go_wp2_with fail
    refine (HRA.out _ (Gr.refl _ _)).mono ?_
    rintro e w3 ⟨vA, rfl, oA, g3⟩
    have H3 := Lib.hid (And.intro oA g3)
    clear oA g3 HRA
    go_wp2_with fail
    · have hge : cp ≤ n := by omega
      have HRD := Lib.hid (show RdZ w2 (some ⟨g, 0, none⟩) ((blk l).drop n) from fun i x hi => by
        have := (List.getElem?_eq_some_iff.1 hi).1
        have := HLB.out
        omega)
      have HRB := Lib.hid (fun W (gg : Gr [] w2 W) => rruns_any ((blk l).drop n) (M - n) (some ⟨g, 0, none⟩) 0 W (HRD.out.gr0 gg) HLB.out (fun x hx => HBM.out x (List.mem_of_mem_drop hx)) (by omega))
      refine (HRB.out _ H3.out.2).mono ?_
      rintro e w4 ⟨vB, rfl, oB, g4⟩
      rw [HPA.out] at H3
      rw [HPB.out] at oB
      obtain ⟨aB, cB, rfl, rB, -, -⟩ := own_parts oB
      have H4 := Lib.hid (And.intro (own_gr0 H3.out.1 g4) (And.intro rB (H2.out.next0 (H3.out.2.next0 g4))))
      clear oB g4 H3 HRB rB
      go_wp2_with fail
      go_loopw [11, 12] (fun v i wr => ∃ k : Nat, k ≤ R.length ∧ i = .int .i64 k ∧ wr.ownsRow w4.heap.size 44 2 v ((R.take k).filter solidB).length (cells2 ((R.take k).filter solidB)) ∧ Gr [] w4 wr) (fun _ i _ => R.length - (intOf i).toNat)
      case atStart => exact ⟨0, by omega, rfl, World.ownsRow_nil _ _ _ _, Gr.refl _ _⟩
      case round =>
        obtain ⟨k, hk, rfl, ho, G⟩ := hrel
        have HQ := Lib.hid (And.intro ho G)
        have hsz := G.size
        clear ho G
        by_cases hkR : k < R.length
        · have hkR2 : (k : Int) < (R.length : Int) := by omega
          obtain ⟨⟨x1, x2⟩, hx⟩ : ∃ x, R[k]? = some x := ⟨_, List.getElem?_eq_getElem hkR⟩
          obtain ⟨b, o, hao, hb, c1, c2⟩ := H4.out.2.1 k _ hx
          subst hao
          have y0 : wr.cell? ⟨b, o + k * 2, none⟩ = some (.int .i64 x1) := (HQ.out.2.cell0 hb).trans c1
          have y1 : wr.cell? ⟨b, o + k * 2 + 1, none⟩ = some (.int .i64 x2) := (HQ.out.2.cell0 hb).trans c2
          have HTK := Lib.hid (show (R.take (k + 1)).filter solidB = (R.take k).filter solidB ++ (if x1 = -1 then [] else [(x1, x2)]) by
            rw [take_snoc hx, List.filter_append]
            congr 1
            unfold solidB
            by_cases q : x1 = -1 <;> simp [q])
          have hfl := List.length_filter_le solidB (R.take k)
          have hfl2 : (R.take k).length ≤ R.length := by rw [List.length_take]; omega
          have hRl := HRL.out
          by_cases hneg : x1 = -1
          · have hd : (x1 == -1) = true := by simp [hneg]
            rw [if_pos hneg, List.append_nil] at HTK
            clear c1 c2 hx hneg
            go_wp2_with fail
            go_roundw
            case rel => exact ⟨k + 1, by omega, by go_num, by rw [HTK.out]; exact HQ.out.1, HQ.out.2⟩
            case measure => simp [intOf]; omega
          · have hd : (x1 == -1) = false := by simp [hneg]
            rw [if_neg hneg] at HTK
            clear c1 c2 hx
            obtain ⟨P, hP⟩ : ∃ P, P = (R.take k).filter solidB := ⟨_, rfl⟩
            rw [← hP] at HQ HTK hfl
            have HN3 := Lib.hid (Holds.new wr #[.int .i64 x1, .int .i64 x2] 44)
            have HO3 := Lib.hid (HQ.out.1.alloc (Obj.cells #[.int .i64 x1, .int .i64 x2] 44))
            clear hP
            go_wp2_with (at_builtin; refine wpList_append_own _ rfl _ _ 39 rfl w4.heap.size 44 i0 _ 2 16 Try.underlying39 hi0 hz0 hz1 hz2 rfl (by decide) _ _ _ rfl HO3.out ⟨wr.heap.size, 0, none⟩ 1 1 [.int .i64 x1, .int .i64 x2] rfl rfl (World.news_of_block HN3.out) (cells2_one2 x1 x2) (by unfold maxLen; omega) (by omega) (by rw [World.size_alloc]; omega) ?_)
            intro v5 w5 hown5 hgrow5 _
            have hlt5 := HO3.out.lt
            have HF := Lib.hid (And.intro (show w5.ownsRow w4.heap.size 44 2 v5 (P ++ [(x1, x2)]).length (cells2 (P ++ [(x1, x2)])) by
              rw [List.length_append, cells2_append]; exact hown5) ((HQ.out.2.alloc (Obj.cells #[.int .i64 x1, .int .i64 x2] 44)).nextN (gr_grown hgrow5) (fun x hx => .inr (hlt5 x (by simpa using hx)).1)))
            clear hown5 hgrow5 hlt5 HO3 HN3 y0 y1
            go_wp2_with fail
            go_roundw
            case rel => exact ⟨k + 1, by omega, by go_num, by rw [HTK.out]; exact HF.out.1, HF.out.2⟩
            case measure => simp [intOf]; omega
        · obtain rfl : k = R.length := by omega
          rw [List.take_length] at HQ
          have HFIN := Lib.hid (And.intro (own_sl2 (own_gr0 H4.out.1 HQ.out.2)) (And.intro (own_sl2 HQ.out.1) (H4.out.2.2.next0 HQ.out.2)))
          go_wp2_with fail
          exact bodyPost_ret (v := .tuple #[vA, u11, .int .i64 0]) (by simp [results, Try.results58, go_sem]) rfl ⟨vA, _, rfl, HFIN.out.1, HFIN.out.2.1, HFIN.out.2.2⟩
    · have HRD2 := Lib.hid (show RdZ w2 (some ⟨g, n, none⟩) ((blk l).drop n) by
        have := HRD.out
        rw [Nat.zero_add] at this
        exact this)
      have HRB := Lib.hid (fun W (gg : Gr [] w2 W) => rruns_any ((blk l).drop n) (M - n) (some ⟨g, n, none⟩) (cp - n) W (HRD2.out.gr0 gg) HLB.out (fun x hx => HBM.out x (List.mem_of_mem_drop hx)) (by omega))
      refine (HRB.out _ H3.out.2).mono ?_
      rintro e w4 ⟨vB, rfl, oB, g4⟩
      rw [HPA.out] at H3
      rw [HPB.out] at oB
      obtain ⟨aB, cB, rfl, rB, -, -⟩ := own_parts oB
      have H4 := Lib.hid (And.intro (own_gr0 H3.out.1 g4) (And.intro rB (H2.out.next0 (H3.out.2.next0 g4))))
      clear oB g4 H3 HRB rB
      go_wp2_with fail
      go_loopw [11, 12] (fun v i wr => ∃ k : Nat, k ≤ R.length ∧ i = .int .i64 k ∧ wr.ownsRow w4.heap.size 44 2 v ((R.take k).filter solidB).length (cells2 ((R.take k).filter solidB)) ∧ Gr [] w4 wr) (fun _ i _ => R.length - (intOf i).toNat)
      case atStart => exact ⟨0, by omega, rfl, World.ownsRow_nil _ _ _ _, Gr.refl _ _⟩
      case round =>
        obtain ⟨k, hk, rfl, ho, G⟩ := hrel
        have HQ := Lib.hid (And.intro ho G)
        have hsz := G.size
        clear ho G
        by_cases hkR : k < R.length
        · have hkR2 : (k : Int) < (R.length : Int) := by omega
          obtain ⟨⟨x1, x2⟩, hx⟩ : ∃ x, R[k]? = some x := ⟨_, List.getElem?_eq_getElem hkR⟩
          obtain ⟨b, o, hao, hb, c1, c2⟩ := H4.out.2.1 k _ hx
          subst hao
          have y0 : wr.cell? ⟨b, o + k * 2, none⟩ = some (.int .i64 x1) := (HQ.out.2.cell0 hb).trans c1
          have y1 : wr.cell? ⟨b, o + k * 2 + 1, none⟩ = some (.int .i64 x2) := (HQ.out.2.cell0 hb).trans c2
          have HTK := Lib.hid (show (R.take (k + 1)).filter solidB = (R.take k).filter solidB ++ (if x1 = -1 then [] else [(x1, x2)]) by
            rw [take_snoc hx, List.filter_append]
            congr 1
            unfold solidB
            by_cases q : x1 = -1 <;> simp [q])
          have hfl := List.length_filter_le solidB (R.take k)
          have hfl2 : (R.take k).length ≤ R.length := by rw [List.length_take]; omega
          have hRl := HRL.out
          by_cases hneg : x1 = -1
          · have hd : (x1 == -1) = true := by simp [hneg]
            rw [if_pos hneg, List.append_nil] at HTK
            clear c1 c2 hx hneg
            go_wp2_with fail
            go_roundw
            case rel => exact ⟨k + 1, by omega, by go_num, by rw [HTK.out]; exact HQ.out.1, HQ.out.2⟩
            case measure => simp [intOf]; omega
          · have hd : (x1 == -1) = false := by simp [hneg]
            rw [if_neg hneg] at HTK
            clear c1 c2 hx
            obtain ⟨P, hP⟩ : ∃ P, P = (R.take k).filter solidB := ⟨_, rfl⟩
            rw [← hP] at HQ HTK hfl
            have HN3 := Lib.hid (Holds.new wr #[.int .i64 x1, .int .i64 x2] 44)
            have HO3 := Lib.hid (HQ.out.1.alloc (Obj.cells #[.int .i64 x1, .int .i64 x2] 44))
            clear hP
            go_wp2_with (at_builtin; refine wpList_append_own _ rfl _ _ 39 rfl w4.heap.size 44 i0 _ 2 16 Try.underlying39 hi0 hz0 hz1 hz2 rfl (by decide) _ _ _ rfl HO3.out ⟨wr.heap.size, 0, none⟩ 1 1 [.int .i64 x1, .int .i64 x2] rfl rfl (World.news_of_block HN3.out) (cells2_one2 x1 x2) (by unfold maxLen; omega) (by omega) (by rw [World.size_alloc]; omega) ?_)
            intro v5 w5 hown5 hgrow5 _
            have hlt5 := HO3.out.lt
            have HF := Lib.hid (And.intro (show w5.ownsRow w4.heap.size 44 2 v5 (P ++ [(x1, x2)]).length (cells2 (P ++ [(x1, x2)])) by
              rw [List.length_append, cells2_append]; exact hown5) ((HQ.out.2.alloc (Obj.cells #[.int .i64 x1, .int .i64 x2] 44)).nextN (gr_grown hgrow5) (fun x hx => .inr (hlt5 x (by simpa using hx)).1)))
            clear hown5 hgrow5 hlt5 HO3 HN3 y0 y1
            go_wp2_with fail
            go_roundw
            case rel => exact ⟨k + 1, by omega, by go_num, by rw [HTK.out]; exact HF.out.1, HF.out.2⟩
            case measure => simp [intOf]; omega
        · obtain rfl : k = R.length := by omega
          rw [List.take_length] at HQ
          have HFIN := Lib.hid (And.intro (own_sl2 (own_gr0 H4.out.1 HQ.out.2)) (And.intro (own_sl2 HQ.out.1) (H4.out.2.2.next0 HQ.out.2)))
          go_wp2_with fail
          exact bodyPost_ret (v := .tuple #[vA, u11, .int .i64 0]) (by simp [results, Try.results58, go_sem]) rfl ⟨vA, _, rfl, HFIN.out.1, HFIN.out.2.1, HFIN.out.2.2⟩

end Go.Proofs.Ytpkhfdcokcchdaa

/-
  Layer 15: the law's same, of equal lists; the reference's Append.
-/
namespace Go.Proofs.Ytpkhfdcokcchdaa
open Go.RowKit

set_option maxHeartbeats 2000000 in
set_option maxRecDepth 20000 in
theorem esame_yes (l : List (Int × Int)) (L : Nat) (ao ao2 : Option Addr) (cap cap2 : Nat) (w : World) (h : Rd2 w ao l) (h2 : Rd2 w ao2 l) (hL : L = l.length) (hL2 : L ≤ 1000) :
    Calls Try.prog 51 #[.slice ao L cap, .slice ao2 L cap2] w fun e w' => e = .returned (.bool true) ∧ Gr [] w w' := by
  have HR := Lib.hid h
  have HR2 := Lib.hid h2
  have HL := Lib.hid hL
  clear h h2 hL
  go_enter Try.func51, Try.ntmps51
  go_wp2_with fail
  go_loopw [14] (fun i wr => ∃ k : Nat, k ≤ L ∧ i = .int .i64 k ∧ Gr [] w wr) (fun i _ => L - (intOf i).toNat)
  case atStart => exact ⟨0, by omega, rfl, Gr.refl _ _⟩
  case round =>
    obtain ⟨k, hk, rfl, G⟩ := hrel
    by_cases hkL : k < L
    · have hkL2 : (k : Int) < (L : Int) := by omega
      obtain ⟨⟨x1, x2⟩, hx⟩ : ∃ x, l[k]? = some x := ⟨_, List.getElem?_eq_getElem (by have := HL.out; omega)⟩
      obtain ⟨b, o, hao, hb, c1, c2⟩ := HR.out k _ hx
      subst hao
      obtain ⟨b2, o2, hao2, hb2, c3, c4⟩ := HR2.out k _ hx
      subst hao2
      have hne : b ≠ wr.heap.size := by have := G.size; omega
      have hne2 : b2 ≠ wr.heap.size := by have := G.size; omega
      have y0 : wr.cell? ⟨b, o + k * 2, none⟩ = some (.int .i64 x1) := (G.cell0 hb).trans c1
      have y1 : wr.cell? ⟨b, o + k * 2 + 1, none⟩ = some (.int .i64 x2) := (G.cell0 hb).trans c2
      have gA := (Gr.refl [] wr).alloc (Obj.cells #[.int .i64 x1, .int .i64 x2] 35)
      have hszw := G.size
      have y2 : (wr.alloc (Obj.cells #[.int .i64 x1, .int .i64 x2] 35)).cell? ⟨b2, o2 + k * 2, none⟩ = some (.int .i64 x1) := (gA.cell0 (by omega)).trans ((G.cell0 hb2).trans c3)
      have y3 : (wr.alloc (Obj.cells #[.int .i64 x1, .int .i64 x2] 35)).cell? ⟨b2, o2 + k * 2 + 1, none⟩ = some (.int .i64 x2) := (gA.cell0 (by omega)).trans ((G.cell0 hb2).trans c4)
      have HGA := Lib.hid (G.alloc (Obj.cells #[.int .i64 x1, .int .i64 x2] 35))
      have hk0 : (0 : Int) ≤ (k : Int) := by omega
      clear c1 c2 c3 c4 hx G gA
      go_wp2_with fail
      go_quiet (fail)
      have HGY := Lib.hid (HGA.out.drewN nq)
      go_wp2_with fail
      go_roundw
      case rel => exact ⟨k + 1, by omega, by go_num, HGY.out⟩
      case measure => simp [intOf]; omega
    · obtain rfl : k = L := by omega
      have HG := Lib.hid G
      clear G
      go_wp2_with fail
      go_ret
      exact ⟨rfl, HG.out⟩

theorem ecut_no (l : List (Int × Int)) (L : Nat) (n : Int) (ao : Option Addr) (cap : Nat) (w : World) (h : Sl2 w (.slice ao L cap) l) (hr : ¬ Right15 l) :
    Calls Try.prog 57 #[.slice ao L cap, .int .i64 n] w fun e w' => e = .returned (.tuple #[.slice none 0 0, .slice none 0 0, .int .i64 2]) ∧ Gr [] w w' := by
  obtain ⟨hL, hrd, _⟩ := sl2_parts h
  have HC := Lib.hid (eright_no l L ao cap w hrd hL hr)
  clear h hrd hL hr
  go_enter Try.func57, Try.ntmps57
  go_wp2_with fail
  refine HC.out.mono ?_
  rintro e w1 ⟨rfl, g1⟩
  have H1 := Lib.hid g1
  clear g1 HC
  go_wp2_with fail
  exact bodyPost_ret (v := .tuple #[.slice none 0 0, .slice none 0 0, .int .i64 2]) (by simp [results, Try.results57, go_sem]) rfl ⟨rfl, H1.out⟩
theorem rcut_no (l : List (Int × Int)) (L : Nat) (n : Int) (ao : Option Addr) (cap : Nat) (w : World) (h : Sl2 w (.slice ao L cap) l) (hr : ¬ Right15 l) :
    Calls Try.prog 58 #[.slice ao L cap, .int .i64 n] w fun e w' => e = .returned (.tuple #[.slice none 0 0, .slice none 0 0, .int .i64 2]) ∧ Gr [] w w' := by
  obtain ⟨hL, hrd, _⟩ := sl2_parts h
  have HC := Lib.hid (rright15_no l L ao cap w hrd hL hr)
  clear h hrd hL hr
  go_enter Try.func58, Try.ntmps58
  go_wp2_with fail
  refine HC.out.mono ?_
  rintro e w1 ⟨rfl, g1⟩
  have H1 := Lib.hid g1
  clear g1 HC
  go_wp2_with fail
  exact bodyPost_ret (v := .tuple #[.slice none 0 0, .slice none 0 0, .int .i64 2]) (by simp [results, Try.results58, go_sem]) rfl ⟨rfl, H1.out⟩
theorem ecut_far (l : List (Int × Int)) (L : Nat) (n : Int) (ao : Option Addr) (cap : Nat) (w : World) (h : Sl2 w (.slice ao L cap) l) (hr : Right15 l) (hn : n < 0 ∨ sumZ l < n) :
    Calls Try.prog 57 #[.slice ao L cap, .int .i64 n] w fun e w' => e = .returned (.tuple #[.slice none 0 0, .slice none 0 0, .int .i64 2]) ∧ Gr [] w w' := by
  obtain ⟨hL, hrd, _⟩ := sl2_parts h
  have HC := Lib.hid (eright_yes l L ao cap w hrd hL hr)
  obtain ⟨s, hs⟩ : ∃ s, s = sumZ l := ⟨_, rfl⟩
  have HBK := Lib.hid (fun W (g : Gr [] w W) => eblocks_any l L s ao cap W (hrd.gr0 g) hL hr.small hs)
  rw [← hs] at hn
  clear h hrd hL hr hs
  go_enter Try.func57, Try.ntmps57
  go_wp2_with fail
  refine HC.out.mono ?_
  rintro e w1 ⟨rfl, g1⟩
  have H1 := Lib.hid g1
  clear g1 HC
  by_cases hneg : n < 0
  · clear hn
    go_wp2_with fail
    exact bodyPost_ret (v := .tuple #[.slice none 0 0, .slice none 0 0, .int .i64 2]) (by simp [results, Try.results57, go_sem]) rfl ⟨rfl, H1.out⟩
  · have hgt : s < n := by omega
    clear hn
    go_wp2_with fail
    refine (HBK.out _ H1.out).mono ?_
    rintro e w2 ⟨rfl, g2⟩
    have H2 := Lib.hid (H1.out.next0 g2)
    clear g2 HBK
    go_wp2_with fail
    exact bodyPost_ret (v := .tuple #[.slice none 0 0, .slice none 0 0, .int .i64 2]) (by simp [results, Try.results57, go_sem]) rfl ⟨rfl, H2.out⟩
theorem rcut_far (l : List (Int × Int)) (L : Nat) (n : Int) (ao : Option Addr) (cap : Nat) (w : World) (h : Sl2 w (.slice ao L cap) l) (hr : Right15 l) (hn : n < 0 ∨ sumZ l < n) :
    Calls Try.prog 58 #[.slice ao L cap, .int .i64 n] w fun e w' => e = .returned (.tuple #[.slice none 0 0, .slice none 0 0, .int .i64 2]) ∧ Gr [] w w' := by
  obtain ⟨hL, hrd, _⟩ := sl2_parts h
  have HC := Lib.hid (rright15_yes l L ao cap w hrd hL hr)
  have hlen := blk_len (l := l) (fun e he => (hr.all e he).2.2.1)
  obtain ⟨M, hM⟩ : ∃ M, M = (blk l).length := ⟨_, rfl⟩
  have HM := Lib.hid hM
  have HBK := Lib.hid (fun W (g : Gr [] w W) => rblocks_any l L ao cap W (hrd.gr0 g) hL (by have := hr.1; omega) hr.all)
  have hn2 : n < 0 ∨ (M : Int) < n := by omega
  clear h hrd hL hr hlen hM hn
  go_enter Try.func58, Try.ntmps58
  go_wp2_with fail
  refine HC.out.mono ?_
  rintro e w1 ⟨rfl, g1⟩
  have H1 := Lib.hid g1
  clear g1 HC
  go_wp2_with fail
  refine (HBK.out _ H1.out).mono ?_
  rintro e w2 ⟨vb, rfl, o2, g2⟩
  have H2 := Lib.hid (H1.out.next0 g2)
  rw [← HM.out] at o2
  obtain ⟨ab, cb, rfl⟩ := own_form o2
  clear g2 HBK o2
  by_cases hneg : n < 0
  · clear hn2
    go_wp2_with fail
    exact bodyPost_ret (v := .tuple #[.slice none 0 0, .slice none 0 0, .int .i64 2]) (by simp [results, Try.results58, go_sem]) rfl ⟨rfl, H2.out⟩
  · have hgt : (M : Int) < n := by omega
    clear hn2
    go_wp2_with fail
    exact bodyPost_ret (v := .tuple #[.slice none 0 0, .slice none 0 0, .int .i64 2]) (by simp [results, Try.results58, go_sem]) rfl ⟨rfl, H2.out⟩

end Go.Proofs.Ytpkhfdcokcchdaa

/-
  Layer 15: the reference's Append.
-/
namespace Go.Proofs.Ytpkhfdcokcchdaa
open Go.RowKit

theorem cellsZ_len (b : List Int) : (cellsZ b).length = b.length := by simp [cellsZ]
theorem cellsZ_one (b : List Int) : ∀ u ∈ cellsZ b, u.oneCell' = true := by
  intro u hu
  obtain ⟨x, _, rfl⟩ := List.mem_map.1 hu
  rfl
theorem joined_runs {l : List (Int × Int)} {a n : Int} (h : Right15 l) (h1 : Right15 [(a, n)]) : runsP (blk l ++ blk [(a, n)]) = joinP (l ++ [(a, n)]) := by
  rw [← blk_append]
  refine runs_blk _ fun e he => ?_
  rcases List.mem_append.1 he with q | q
  · have := h.all e q; exact ⟨this.1, this.2.2.1⟩
  · have := h1.all e q; exact ⟨this.1, this.2.2.1⟩
theorem blk_hi {l : List (Int × Int)} (h : Right15 l) : ∀ x ∈ blk l, -1 ≤ x ∧ x ≤ 1000000 := by
  intro x hx
  obtain ⟨e, he, hxe⟩ := List.mem_flatMap.1 hx
  have := h.all e he
  rcases blkR_mem hxe with q | q <;> omega
set_option maxHeartbeats 2000000 in
set_option maxRecDepth 20000 in
theorem rappend_any (l : List (Int × Int)) (N : Nat) (ao : Option Addr) (cap : Nat) (a n : Int) (w : World) (h : Rd2 w ao l) (hN : N = l.length) :
    Calls Try.prog 54 #[.slice ao N cap, .int .i64 a, .int .i64 n] w fun e w' => Gr [] w w' ∧
      ((¬ Right15 l ∧ e = .returned (.tuple #[.slice none 0 0, .int .i64 2])) ∨
       (Right15 l ∧ ¬ (Right15 [(a, n)] ∧ Right15 (joinP (l ++ [(a, n)]))) ∧ e = .returned (.tuple #[.slice none 0 0, .int .i64 7])) ∨
       (Right15 l ∧ Right15 [(a, n)] ∧ Right15 (joinP (l ++ [(a, n)])) ∧ ∃ v, e = .returned (.tuple #[v, .int .i64 0]) ∧ Sl2 w' v (joinP (l ++ [(a, n)])))) := by
  obtain ⟨i0, hi0, hz0, hz1, hz2⟩ := info_parts infoI15
  by_cases hr : Right15 l
  · have HC := Lib.hid (rright15_yes l N ao cap w h hN hr)
    have HBK := Lib.hid (fun W (g : Gr [] w W) => rblocks_any l N ao cap W (h.gr0 g) hN (by have := hr.1; omega) hr.all)
    have HR := Lib.hid hr
    clear h hN hr
    go_enter Try.func54, Try.ntmps54
    go_wp2_with fail
    refine HC.out.mono ?_
    rintro e w1 ⟨rfl, g1⟩
    have H1 := Lib.hid g1
    clear g1 HC
    have HY := Lib.hid (holds_rd_one (Holds.new w1 #[.int .i64 a, .int .i64 n] 44))
    have HG2 := Lib.hid (H1.out.alloc (Obj.cells #[.int .i64 a, .int .i64 n] 44))
    go_wp2_with fail
    generalize w1.alloc (Obj.cells #[.int .i64 a, .int .i64 n] 44) = w2 at *
    obtain ⟨b1, hb1⟩ : ∃ b, w1.heap.size = b := ⟨_, rfl⟩
    rw [hb1] at HY ⊢
    clear hb1 H1
    by_cases he : Right15 [(a, n)]
    · refine (rright15_yes [(a, n)] 1 (some ⟨b1, 0, none⟩) 1 w2 HY.out rfl he).mono ?_
      rintro e w3 ⟨rfl, g3⟩
      have H3 := Lib.hid (HG2.out.next0 g3)
      have HE := Lib.hid he
      have hbd := (one_right (a, n)).1 he
      simp only at hbd
      clear g3 HG2 he HY
      go_wp2_with fail
      refine (HBK.out _ H3.out).mono ?_
      rintro e w4 ⟨vA, rfl, oA, g4⟩
      have HA := Lib.hid oA
      have H4 := Lib.hid (H3.out.next0 g4)
      have hsz4 := g4.size
      have HSZ := Lib.hid (show w.heap.size ≤ w3.heap.size from H3.out.size)
      clear oA g4 H3 HBK
      have HY2 := Lib.hid (holds_rd_one (Holds.new w4 #[.int .i64 a, .int .i64 n] 44))
      have HG5 := Lib.hid ((Gr.refl [] w4).alloc (Obj.cells #[.int .i64 a, .int .i64 n] 44))
      go_wp2_with fail
      generalize w4.alloc (Obj.cells #[.int .i64 a, .int .i64 n] 44) = w5 at *
      obtain ⟨b2, hb2⟩ : ∃ b, w4.heap.size = b := ⟨_, rfl⟩
      rw [hb2] at HY2 ⊢
      clear hb2
      refine (rblocks_any [(a, n)] 1 (some ⟨b2, 0, none⟩) 1 w5 HY2.out rfl (by omega) HE.out.all).mono ?_
      rintro e w6 ⟨vB, rfl, oB, g6⟩
      have HG6 := Lib.hid (HG5.out.next0 g6)
      have HA6 := Lib.hid (own_gr0 HA.out HG6.out)
      have HBLN := Lib.hid (show (blk [(a, n)]).length = n.toNat by
        have := blk_len (l := [(a, n)]) (fun e he => (HE.out.all e he).2.2.1)
        simp [sumZ] at this
        omega)
      have hla := blk_len (l := l) (fun e he => (HR.out.all e he).2.2.1)
      have hsl := HR.out.2.2
      have HJR := Lib.hid (joined_runs HR.out HE.out)
      have HBM := Lib.hid (show ∀ x ∈ blk l ++ blk [(a, n)], -1 ≤ x ∧ x ≤ 1000000 from fun x hx => by
        rcases List.mem_append.1 hx with q | q
        · exact blk_hi HR.out x q
        · exact blk_hi HE.out x q)
      obtain ⟨X, hX⟩ : ∃ X, X = blk l := ⟨_, rfl⟩
      obtain ⟨Y, hY⟩ : ∃ Y, Y = blk [(a, n)] := ⟨_, rfl⟩
      rw [← hX] at HA HA6 HJR HBM hla
      rw [← hY] at HBLN HJR HBM oB
      have hXl : X.length ≤ 65536 := by omega
      have hYl : Y.length ≤ 65536 ∧ 1 ≤ Y.length := by have := HBLN.out; omega
      obtain ⟨gB, cB, hvB, hgB1, hgB2⟩ := oB.form (by omega)
      subst hvB
      have hnews : ∀ j u, (cellsZ Y)[j]? = some u → w6.cell? ((⟨gB, 0, none⟩ : Addr).add j) = some u := fun j u hu => by
        have hj : j < Y.length := by have := (List.getElem?_eq_some_iff.1 hu).1; rw [cellsZ_len] at this; exact this
        have e1 : (⟨gB, 0, none⟩ : Addr).add j = ⟨gB, j, none⟩ := by rw [Go.WideShapes.add_plain, Nat.zero_add]
        rw [e1, oB.cellAt _ (by omega)]
        exact hu
      have hlen : (cellsZ Y).length = Y.length * 1 := by rw [cellsZ_len, Nat.mul_one]
      have hone := cellsZ_one Y
      have hbase : w3.heap.size ≤ w6.heap.size := by have := HG6.out.size; omega
      clear hX hY HA HY2 HG5 g6 oB hgB1 hgB2 hla
      go_wp2_with (at_builtin; refine wpList_append_own _ rfl _ _ 47 rfl w3.heap.size 3 i0 _ 1 8 Try.underlying47 hi0 hz0 hz1 hz2 rfl (by decide) _ _ _ rfl HA6.out ⟨gB, 0, none⟩ Y.length cB (cellsZ Y) rfl hlen hnews hone (by unfold maxLen; omega) (by omega) (by omega) ?_)
      intro v7 w7 hown7 hgrow7 _
      have hlt7 := HA6.out.lt
      have HZ := Lib.hid (show w7.ownsRow w3.heap.size 3 1 v7 (X ++ Y).length (cellsZ (X ++ Y)) by
        rw [List.length_append, cellsZ_append]; exact hown7)
      have H7 := Lib.hid ((H4.out.next0 HG6.out).nextN (gr_grown hgrow7) (fun x hx => .inr (by
        have := (hlt7 x (by simpa using hx)).1
        have := HSZ.out
        omega)))
      clear hown7 hgrow7 hlt7 H4 HG6 HA6 hnews hlen hone
      have hZl : (X ++ Y).length ≤ 1000000 := by rw [List.length_append]; omega
      obtain ⟨Z, hZ⟩ : ∃ Z, Z = X ++ Y := ⟨_, rfl⟩
      rw [← hZ] at HZ HJR HBM hZl
      clear hZ
      obtain ⟨aZ, cZ, rfl⟩ := own_form HZ.out
      have HRN := Lib.hid (rruns_any Z Z.length aZ cZ w7 (own_rdZ HZ.out) rfl HBM.out hZl)
      go_wp2_with fail
      refine HRN.out.mono ?_
      rintro e w8 ⟨vJ, rfl, oJ, g8⟩
      rw [HJR.out] at oJ
      obtain ⟨J, hJ⟩ : ∃ J, J = joinP (l ++ [(a, n)]) := ⟨_, rfl⟩
      have HJ := Lib.hid hJ
      rw [← hJ] at oJ
      obtain ⟨aJ, cJ, rfl, rJ, -, -⟩ := own_parts oJ
      have H8 := Lib.hid (And.intro (own_sl2 oJ) (H7.out.next0 g8))
      clear oJ g8 hJ HRN H7 HZ
      by_cases hj : Right15 J
      · have HC9 := Lib.hid (rright15_yes J J.length aJ cJ w8 rJ rfl hj)
        have HJY := Lib.hid hj
        clear rJ hj
        go_wp2_with fail
        refine HC9.out.mono ?_
        rintro e w9 ⟨rfl, g9⟩
        have H9 := Lib.hid (And.intro (H8.out.1.gr0 g9) (H8.out.2.next0 g9))
        clear g9 H8 HC9
        go_wp2_with fail
        exact bodyPost_ret (v := .tuple #[.slice aJ J.length cJ, .int .i64 0]) (by simp [results, Try.results54, go_sem]) rfl ⟨H9.out.2, .inr (.inr ⟨HR.out, HE.out, by rw [← HJ.out]; exact HJY.out, _, rfl, by rw [← HJ.out]; exact H9.out.1⟩)⟩
      · have HC9 := Lib.hid (rright15_no J J.length aJ cJ w8 rJ rfl hj)
        have HJY := Lib.hid hj
        clear rJ hj
        go_wp2_with fail
        refine HC9.out.mono ?_
        rintro e w9 ⟨rfl, g9⟩
        have H9 := Lib.hid (H8.out.2.next0 g9)
        clear g9 H8 HC9
        go_wp2_with fail
        exact bodyPost_ret (v := .tuple #[.slice none 0 0, .int .i64 7]) (by simp [results, Try.results54, go_sem]) rfl ⟨H9.out, .inr (.inl ⟨HR.out, fun q => HJY.out (by rw [HJ.out]; exact q.2), rfl⟩)⟩
    · refine (rright15_no [(a, n)] 1 (some ⟨b1, 0, none⟩) 1 w2 HY.out rfl he).mono ?_
      rintro e w3 ⟨rfl, g3⟩
      have H3 := Lib.hid (HG2.out.next0 g3)
      have HE := Lib.hid he
      clear g3 HY HG2 he
      go_wp2_with fail
      exact bodyPost_ret (v := .tuple #[.slice none 0 0, .int .i64 7]) (by simp [results, Try.results54, go_sem]) rfl ⟨H3.out, .inr (.inl ⟨HR.out, fun q => HE.out q.1, rfl⟩)⟩
  · have HC := Lib.hid (rright15_no l N ao cap w h hN hr)
    have HR := Lib.hid hr
    clear h hN hr
    go_enter Try.func54, Try.ntmps54
    go_wp2_with fail
    refine HC.out.mono ?_
    rintro e w1 ⟨rfl, g1⟩
    have H1 := Lib.hid g1
    clear g1
    go_wp2_with fail
    exact bodyPost_ret (v := .tuple #[.slice none 0 0, .int .i64 2]) (by simp [results, Try.results54, go_sem]) rfl ⟨H1.out, .inl ⟨HR.out, rfl⟩⟩

end Go.Proofs.Ytpkhfdcokcchdaa

/-
  Layer 15: a hole filled, block by block; the reference's Fill where its arguments may be.
-/
namespace Go.Proofs.Ytpkhfdcokcchdaa
open Go.RowKit

def fillB (b : List Int) (i k : Nat) (a : Int) : List Int := b.take i ++ (List.range k).map (fun (j : Nat) => a + (j : Int)) ++ b.drop (i + k)
theorem fillB_zero (b : List Int) (i : Nat) (a : Int) : fillB b i 0 a = b := by simp [fillB]
theorem fillB_len (b : List Int) (i k : Nat) (a : Int) (h : i + k ≤ b.length) : (fillB b i k a).length = b.length := by
  simp [fillB]; omega
theorem fillB_set (b : List Int) (i k : Nat) (a : Int) (h : i + k < b.length) : (fillB b i k a).set (i + k) (a + (k : Int)) = fillB b i (k + 1) a := by
  unfold fillB
  rw [List.drop_eq_getElem_cons (show i + k < b.length from h), List.range_succ, List.map_append]
  have hl : (b.take i ++ (List.range k).map (fun (j : Nat) => a + (j : Int))).length = i + k := by simp; omega
  rw [List.set_append_right _ _ (by rw [hl]; exact Nat.le_refl _), hl, Nat.sub_self, List.set_cons_zero]
  simp [Nat.add_assoc]
theorem fill_is {l : List (Int × Int)} (h : Right15 l) {i n : Nat} {a : Int} (ha : 0 ≤ a) (hn : 1 ≤ n) : runsP (fillB (blk l) i n a) = joinP (fillP l i n a) := by
  have h1 := split_blk (l := l) (n := (i : Int)) (by omega) (fun e he => ⟨(h.all e he).1, (h.all e he).2.2.1⟩)
  have h2 := split_ok (l := l) (n := (i : Int)) (B := 65536) (by omega) h.all h.apart
  have h3 := split_blk (l := restP l i) (n := (n : Int)) (by omega) (fun e he => ⟨(h2.2.1 e he).1, (h2.2.1 e he).2.2.1⟩)
  have h4 := split_ok (l := restP l i) (n := (n : Int)) (B := 131072) (by omega) h2.2.1 h2.2.2.2.1
  have hok : ∀ p ∈ fillP l i n a, okR p := by
    intro p hp
    unfold fillP at hp
    rcases List.mem_append.1 hp with q | q
    · rcases List.mem_append.1 q with q | q
      · have := h2.1 p q; exact ⟨this.1, this.2.2.1⟩
      · simp at q; subst q; exact ⟨by simp only; omega, by simp only; omega⟩
    · have := h4.2.1 p q; exact ⟨this.1, this.2.2.1⟩
  rw [← runs_blk _ hok]
  congr 1
  unfold fillP fillB
  rw [blk_append, blk_append, h1.1, h3.2, h1.2, List.drop_drop]
  have hone : blk [(a, (n : Int))] = (List.range n).map (fun (j : Nat) => a + (j : Int)) := by
    rw [blk_cons, blk_nil, List.append_nil]
    unfold blkR
    simp only [Int.toNat_natCast]
    refine List.map_congr_left fun k _ => ?_
    rw [if_neg (by omega)]
  rw [hone]
  simp
theorem held_all {l : List (Int × Int)} (h : ∀ e ∈ l, -1 ≤ e.1 ∧ 1 ≤ e.2) : (heldZ l ≤ 0 ↔ ∀ x ∈ blk l, x = -1) ∧ 0 ≤ heldZ l := by
  induction l with
  | nil => simp [heldZ, blk]
  | cons e r ih =>
    have h1 := h e (by simp)
    have h2 := ih (fun x hx => h x (by simp [hx]))
    rw [blk_cons]
    by_cases q : e.1 = -1
    · have hh : heldZ (e :: r) = heldZ r := by simp [heldZ, q]
      rw [hh]
      refine ⟨⟨fun hz x hx => ?_, fun hz => h2.1.2 fun x hx => hz x (List.mem_append.2 (.inr hx))⟩, h2.2⟩
      rcases List.mem_append.1 hx with y | y
      · unfold blkR at y
        obtain ⟨k, _, rfl⟩ := List.mem_map.1 y
        rw [if_pos q]
      · exact h2.1.1 hz x y
    · have hh : heldZ (e :: r) = e.2 + heldZ r := by simp [heldZ, q]
      rw [hh]
      refine ⟨⟨fun hz => by omega, fun hz => ?_⟩, by omega⟩
      have := hz e.1 (List.mem_append.2 (.inl (by
        unfold blkR
        refine List.mem_map.2 ⟨0, List.mem_range.2 (by omega), ?_⟩
        rw [if_neg q]; simp)))
      exact absurd this q
theorem hole_is {l : List (Int × Int)} (h : Right15 l) (i n : Nat) (hi : i + n ≤ (blk l).length) : heldZ (firstP (restP l i) n) ≤ 0 ↔ ∀ k, k < n → (blk l)[i + k]? = some (-1) := by
  have h1 := split_blk (l := l) (n := (i : Int)) (by omega) (fun e he => ⟨(h.all e he).1, (h.all e he).2.2.1⟩)
  have h2 := split_ok (l := l) (n := (i : Int)) (B := 65536) (by omega) h.all h.apart
  have h3 := split_blk (l := restP l i) (n := (n : Int)) (by omega) (fun e he => ⟨(h2.2.1 e he).1, (h2.2.1 e he).2.2.1⟩)
  have h4 := split_ok (l := restP l i) (n := (n : Int)) (B := 131072) (by omega) h2.2.1 h2.2.2.2.1
  rw [(held_all (l := firstP (restP l i) n) (fun e he => ⟨(h4.1 e he).1, (h4.1 e he).2.2.1⟩)).1, h3.1, h1.2]
  simp only [Int.toNat_natCast]
  constructor
  · intro hz k hk
    have hlt : i + k < (blk l).length := by omega
    rw [List.getElem?_eq_getElem hlt]
    congr 1
    refine hz _ (List.mem_iff_getElem?.2 ⟨k, ?_⟩)
    rw [List.getElem?_take_of_lt hk, List.getElem?_drop, List.getElem?_eq_getElem hlt]
  · intro hz x hx
    obtain ⟨k, hk⟩ := List.mem_iff_getElem?.1 hx
    have hkn : k < n := by
      have := (List.getElem?_eq_some_iff.1 hk).1
      simp at this; omega
    rw [List.getElem?_take_of_lt hkn, List.getElem?_drop, hz k hkn] at hk
    injection hk with hk
    exact hk.symm

end Go.Proofs.Ytpkhfdcokcchdaa

/-
  Layer 15: the reference's Fill where its arguments may be.
-/
namespace Go.Proofs.Ytpkhfdcokcchdaa
open Go.RowKit

theorem fillB_mem {b : List Int} {i k : Nat} {a : Int} (hb : ∀ x ∈ b, -1 ≤ x ∧ x ≤ 1000000) (ha : 0 ≤ a) (hk : a + (k : Int) ≤ 1000000) : ∀ x ∈ fillB b i k a, -1 ≤ x ∧ x ≤ 1000000 := by
  intro x hx
  unfold fillB at hx
  rcases List.mem_append.1 hx with q | q
  · rcases List.mem_append.1 q with q | q
    · exact hb x (List.mem_of_mem_take q)
    · obtain ⟨j, hj, rfl⟩ := List.mem_map.1 q
      have := List.mem_range.1 hj
      omega
  · exact hb x (List.mem_of_mem_drop q)
theorem fillB_far (b : List Int) (i k j : Nat) (a : Int) (h : i + k ≤ j) (hb : i + k ≤ b.length) : (fillB b i k a)[j]? = b[j]? := by
  unfold fillB
  rw [List.getElem?_append_right (by simp; omega), List.getElem?_drop]
  congr 1
  simp
  omega
theorem cellsZ_set (b : List Int) (i : Nat) (x : Int) : (cellsZ b).set i (.int .i64 x) = cellsZ (b.set i x) := by
  simp [cellsZ, List.map_set]
set_option maxHeartbeats 2000000 in
set_option maxRecDepth 20000 in
theorem rfill_ok (l : List (Int × Int)) (N i n : Nat) (a : Int) (ao : Option Addr) (cap : Nat) (w : World) (h : Rd2 w ao l) (hN : N = l.length) (hr : Right15 l) (ha : 0 ≤ a) (ha2 : a ≤ 900000) (hn1 : 1 ≤ n) (hn : (i : Int) + n ≤ sumZ l) :
    Calls Try.prog 56 #[.slice ao N cap, .int .i64 i, .int .i64 a, .int .i64 n] w fun e w' => Gr [] w w' ∧
      ((0 < heldZ (firstP (restP l i) n) ∧ e = .returned (.tuple #[.slice none 0 0, .int .i64 2])) ∨
       (heldZ (firstP (restP l i) n) ≤ 0 ∧ ¬ Right15 (joinP (fillP l i n a)) ∧ e = .returned (.tuple #[.slice none 0 0, .int .i64 7])) ∨
       (heldZ (firstP (restP l i) n) ≤ 0 ∧ Right15 (joinP (fillP l i n a)) ∧ ∃ v, e = .returned (.tuple #[v, .int .i64 0]) ∧ Sl2 w' v (joinP (fillP l i n a)))) := by
  obtain ⟨i0, hi0, hz0, hz1, hz2⟩ := info_parts infoI15
  have HC := Lib.hid (rright15_yes l N ao cap w h hN hr)
  have HBK := Lib.hid (fun W (g : Gr [] w W) => rblocks_any l N ao cap W (h.gr0 g) hN (by have := hr.1; omega) hr.all)
  have hlen := blk_len (l := l) (fun e he => (hr.all e he).2.2.1)
  have hs := hr.2.2
  have HBM := Lib.hid (blk_hi hr)
  have HFI := Lib.hid (fill_is hr (i := i) ha hn1)
  have HHO := Lib.hid (hole_is hr i n (by omega))
  obtain ⟨B, hB⟩ : ∃ B, B = blk l := ⟨_, rfl⟩
  rw [← hB] at hlen HBM HFI HHO
  obtain ⟨M, hM⟩ : ∃ M, M = B.length := ⟨_, rfl⟩
  have HM := Lib.hid hM
  have hM2 : M ≤ 65536 := by omega
  have hin : i + n ≤ M := by omega
  obtain ⟨J, hJ⟩ : ∃ J, J = joinP (fillP l i n a) := ⟨_, rfl⟩
  rw [← hJ] at HFI ⊢
  obtain ⟨hz, hhz⟩ : ∃ z, z = heldZ (firstP (restP l i) n) := ⟨_, rfl⟩
  rw [← hhz] at HHO ⊢
  have HBK := Lib.hid (fun W (g : Gr [] w W) => by have := HBK.out W g; rw [← hB, ← hM] at this; exact this)
  have d1 : ¬ a < 0 := by omega
  have d2 : ¬ (n : Int) < 1 := by omega
  have d3 : ¬ (M : Int) < (n : Int) := by omega
  have d4 : IntKind.i64.wrap ((M : Int) - (n : Int)) = (M : Int) - (n : Int) := IntWalk.i64_in _ (by omega)
  have d5 : ¬ (M : Int) - (n : Int) < (i : Int) := by omega
  clear h hN hr hn hlen hs hM hJ hhz hB
  go_enter Try.func56, Try.ntmps56
  go_wp2_with fail
  refine HC.out.mono ?_
  rintro e w1 ⟨rfl, g1⟩
  have H1 := Lib.hid g1
  clear g1 HC
  go_wp2_with fail
  refine (HBK.out _ H1.out).mono ?_
  rintro e w2 ⟨vb, rfl, o2, g2⟩
  have H2 := Lib.hid (H1.out.next0 g2)
  obtain ⟨gB, cB, hvB, hgB1, hgB2⟩ := o2.form (by omega)
  subst hvB
  have HB2 := Lib.hid o2
  have hnews : ∀ j u, (cellsZ B)[j]? = some u → w2.cell? ((⟨gB, 0, none⟩ : Addr).add j) = some u := fun j u hu => by
    have hj : j < B.length := by have := (List.getElem?_eq_some_iff.1 hu).1; rw [cellsZ_len] at this; exact this
    have e1 : (⟨gB, 0, none⟩ : Addr).add j = ⟨gB, j, none⟩ := by rw [Go.WideShapes.add_plain, Nat.zero_add]
    rw [e1, o2.cellAt _ (by have := HM.out; omega)]
    exact hu
  have hlen2 : (cellsZ B).length = M * 1 := by rw [cellsZ_len, Nat.mul_one, HM.out]
  have hone := cellsZ_one B
  have HOL := Lib.hid (World.ownsRow_nil w2 w2.heap.size 3 1)
  clear g2 HBK H1 o2
  go_wp2_with (at_builtin; refine wpList_append_own _ rfl _ _ 47 rfl w2.heap.size 3 i0 _ 1 8 Try.underlying47 hi0 hz0 hz1 hz2 rfl (by decide) _ _ _ rfl HOL.out ⟨gB, 0, none⟩ M cB (cellsZ B) rfl hlen2 hnews hone (by unfold maxLen; omega) (by omega) (Nat.le_refl _) ?_)
  intro v3 w3 hown3 hgrow3 _
  obtain ⟨gO, cO, hvO, hgO1, hgO2⟩ := hown3.form (by omega)
  subst hvO
  have g3 : Gr [] w2 w3 := gr_grown hgrow3
  have HB3 := Lib.hid (own_gr0 HB2.out g3)
  have HO3 := Lib.hid hown3
  have H3 := Lib.hid (H2.out.next0 g3)
  have hne : gB ≠ gO := by omega
  have hszw : w.heap.size ≤ w2.heap.size := H2.out.size
  clear hown3 hgrow3 g3 hnews hlen2 hone HOL HB2 d1 d2 d3 d4 d5
  go_wp2_with fail
  go_loopw [13] (fun q wr => ∃ k : Nat, k ≤ n ∧ q = .int .i64 k ∧ Hid (∀ j, j < k → B[i + j]? = some (-1)) ∧ wr.ownsRow w2.heap.size 3 1 (.slice (some ⟨gO, 0, none⟩) M cO) M (cellsZ (fillB B i k a)) ∧ Gr [gO] w3 wr) (fun q _ => n - (intOf q).toNat)
  case atStart => exact ⟨0, by omega, rfl, Lib.hid (fun j hj => by omega), by rw [fillB_zero]; exact HO3.out, Gr.refl _ _⟩
  case round =>
    obtain ⟨k, hk, rfl, HAL, ho, G⟩ := hrel
    have HQ := Lib.hid (And.intro ho G)
    have hgw : gO < wr.heap.size := (ho.lt gO rfl).2
    by_cases hkn : k < n
    · have hkn2 : (k : Int) < (n : Int) := by omega
      obtain ⟨x, hx⟩ : ∃ x, B[i + k]? = some x := ⟨_, List.getElem?_eq_getElem (by have := HM.out; omega)⟩
      have y0 : wr.cell? ⟨gB, i + k, none⟩ = some (.int .i64 x) := by
        have hb3 := (own_gr HB3.out G (fun b hb hm => by
          have e1 : gB = b := by simpa [Value.ownBlock] using hb
          simp at hm
          omega)).cellAt (i + k) (by omega)
        rw [hb3]
        simp only [cellsZ, List.getElem?_map, hx]; rfl
      have hw1 : IntKind.i64.wrap ((i : Int) + (k : Int)) = (i : Int) + (k : Int) := IntWalk.i64_in _ (by omega)
      have hb0 : (0 : Int) ≤ (i : Int) + (k : Int) := by omega
      have hb1 : (i : Int) + (k : Int) < (M : Int) := by omega
      have ht : ((i : Int) + (k : Int)).toNat = i + k := by omega
      by_cases hneg : x = -1
      · subst hneg
        have y1 : wr.cell? ⟨gO, i + k, none⟩ = some (.int .i64 (-1)) := by
          rw [ho.cellAt _ (by omega)]
          simp only [cellsZ, List.getElem?_map]
          rw [fillB_far _ _ _ _ _ (Nat.le_refl _) (by have := HM.out; omega), hx]; rfl
        have yf : wr.frozen? ⟨gO, i + k, none⟩ = false := ho.frozenAt _
        have hw2 : IntKind.i64.wrap (a + (k : Int)) = a + (k : Int) := IntWalk.i64_in _ (by omega)
        have HUP := Lib.hid (show (wr.setCell ⟨gO, i + k, none⟩ (.int .i64 (a + (k : Int)))).ownsRow w2.heap.size 3 1 (.slice (some ⟨gO, 0, none⟩) M cO) M (cellsZ (fillB B i (k + 1) a)) ∧ Gr [gO] w3 (wr.setCell ⟨gO, i + k, none⟩ (.int .i64 (a + (k : Int)))) from by
          have s1 := (ho.stored (i + k) (.int .i64 (a + (k : Int)))).1
          rw [cellsZ_set, fillB_set _ _ _ _ (by have := HM.out; omega)] at s1
          exact ⟨s1, G.setCell (p := ⟨gO, i + k, none⟩) (.inl (by simp)) _⟩)
        have HAL2 := Lib.hid (show ∀ j, j < k + 1 → B[i + j]? = some (-1) from fun j hj => by
          by_cases q : j = k
          · subst q; exact hx
          · exact HAL.out j (by omega))
        clear ho G hx
        go_wp2_with fail
        go_roundw
        case rel => exact ⟨k + 1, by omega, by go_num, HAL2, HUP.out.1, HUP.out.2⟩
        case measure => simp [intOf]; omega
      · have hd : (x == -1) = false := by simp [hneg]
        have HPOS := Lib.hid (show 0 < hz by
          refine Int.not_le.1 fun q => ?_
          have := HHO.out.1 q k hkn
          rw [hx] at this
          injection this with this
          exact hneg this)
        have HG := Lib.hid (H3.out.nextN G (fun y hy => by simp at hy; subst hy; exact .inr (by omega)))
        clear ho G hx
        go_wp2_with fail
        exact bodyPost_ret (v := .tuple #[.slice none 0 0, .int .i64 2]) (by simp [results, Try.results56, go_sem]) rfl ⟨HG.out, .inl ⟨HPOS.out, rfl⟩⟩
    · obtain rfl : k = n := by omega
      have HNP := Lib.hid (HHO.out.2 HAL.out)
      have HFM := Lib.hid (fillB_mem (b := B) (i := i) (k := k) (a := a) HBM.out ha (by omega))
      have hfl := fillB_len B i k a (by have := HM.out; omega)
      rw [← HM.out] at hfl
      have H5 := Lib.hid (H3.out.nextN G (fun y hy => by simp at hy; subst hy; exact .inr (by omega)))
      obtain ⟨Z, hZ⟩ : ∃ Z, Z = fillB B i k a := ⟨_, rfl⟩
      rw [← hZ] at ho HFI HFM hfl
      have HRN := Lib.hid (rruns_any Z M (some ⟨gO, 0, none⟩) cO wr (own_rdZ ho) hfl.symm HFM.out (by omega))
      clear ho G hZ hfl HQ
      go_wp2_with fail
      refine HRN.out.mono ?_
      rintro e w8 ⟨vJ, rfl, oJ, g8⟩
      rw [HFI.out] at oJ
      obtain ⟨aJ, cJ, rfl, rJ, -, -⟩ := own_parts oJ
      have H8 := Lib.hid (And.intro (own_sl2 oJ) (H5.out.next0 g8))
      clear oJ g8 HRN H5
      by_cases hj : Right15 J
      · have HC9 := Lib.hid (rright15_yes J J.length aJ cJ w8 rJ rfl hj)
        have HJY := Lib.hid hj
        clear rJ hj
        go_wp2_with fail
        refine HC9.out.mono ?_
        rintro e w9 ⟨rfl, g9⟩
        have H9 := Lib.hid (And.intro (H8.out.1.gr0 g9) (H8.out.2.next0 g9))
        clear g9 H8 HC9
        go_wp2_with fail
        exact bodyPost_ret (v := .tuple #[.slice aJ J.length cJ, .int .i64 0]) (by simp [results, Try.results56, go_sem]) rfl ⟨H9.out.2, .inr (.inr ⟨HNP.out, HJY.out, _, rfl, H9.out.1⟩)⟩
      · have HC9 := Lib.hid (rright15_no J J.length aJ cJ w8 rJ rfl hj)
        have HJY := Lib.hid hj
        clear rJ hj
        go_wp2_with fail
        refine HC9.out.mono ?_
        rintro e w9 ⟨rfl, g9⟩
        have H9 := Lib.hid (H8.out.2.next0 g9)
        clear g9 H8 HC9
        go_wp2_with fail
        exact bodyPost_ret (v := .tuple #[.slice none 0 0, .int .i64 7]) (by simp [results, Try.results56, go_sem]) rfl ⟨H9.out, .inr (.inl ⟨HNP.out, HJY.out, rfl⟩)⟩

end Go.Proofs.Ytpkhfdcokcchdaa
