/-
  Layer 15: the law's tame.
-/
import Derived.Test.YtpkhfdcokcchdaaExK
namespace Go.Proofs.Ytpkhfdcokcchdaa
open Go.RowKit

def tmE (e : Int × Int) : Int × Int := (if e.1 < 0 then -1 else e.1 % 200, 1 + mx e.2 % 9)
theorem tmE_bd (e : Int × Int) : -1 ≤ (tmE e).1 ∧ (tmE e).1 ≤ 199 ∧ 1 ≤ (tmE e).2 ∧ (tmE e).2 ≤ 9 := by
  unfold tmE mx
  simp only
  split <;> omega
theorem blkR_mem {e : Int × Int} {x : Int} (h : x ∈ blkR e) : x = -1 ∨ (e.1 ≤ x ∧ x < e.1 + e.2) := by
  unfold blkR at h
  obtain ⟨k, hk, rfl⟩ := List.mem_map.1 h
  have := List.mem_range.1 hk
  split
  · exact .inl rfl
  · exact .inr (by omega)
theorem blk_mem {l : List (Int × Int)} (h : ∀ e ∈ l, -1 ≤ e.1 ∧ e.1 ≤ 199 ∧ 1 ≤ e.2 ∧ e.2 ≤ 9) : ∀ x ∈ blk l, -1 ≤ x ∧ x ≤ 1000000 := by
  intro x hx
  obtain ⟨e, he, hxe⟩ := List.mem_flatMap.1 hx
  have := h e he
  rcases blkR_mem hxe with q | q <;> omega
theorem blk_short {l : List (Int × Int)} (h : ∀ e ∈ l, -1 ≤ e.1 ∧ e.1 ≤ 199 ∧ 1 ≤ e.2 ∧ e.2 ≤ 9) : (blk l).length ≤ 9 * l.length := by
  induction l with
  | nil => simp [blk]
  | cons e r ih =>
    have h1 := h e (by simp)
    have h2 := ih (fun x hx => h x (by simp [hx]))
    rw [blk_cons, List.length_append, blkR_len, List.length_cons]
    omega
theorem tm_all (l : List (Int × Int)) : ∀ e ∈ l.map tmE, -1 ≤ e.1 ∧ e.1 ≤ 199 ∧ 1 ≤ e.2 ∧ e.2 ≤ 9 := by
  intro e he
  obtain ⟨x, _, rfl⟩ := List.mem_map.1 he
  exact tmE_bd x
def tamed (l : List (Int × Int)) : List (Int × Int) := joinP ((l.take 20).map tmE)
theorem maxZ (P : Program) (x y m : Int) (h : m = max x y) (ts : Array TypeId) (t : TypeId) (w : World) : (Builtin.max_ ts t #[.int .i64 x, .int .i64 y]).run P w = .ok (.int .i64 m) w := by
  rw [run_max_int2]
  have : (if x < y then y else x) = m := by split <;> omega
  rw [this]

set_option maxHeartbeats 3000000 in
set_option maxRecDepth 20000 in
theorem etame_some (l : List (Int × Int)) (N b o cap : Nat) (w : World) (h : Rd2 w (some ⟨b, o, none⟩) l) (hN : N = l.length) (hc : N ≤ cap) :
    Calls Try.prog 40 #[.slice (some ⟨b, o, none⟩) N cap] w fun e w' => ∃ v, e = .returned v ∧ w'.ownsRow w.heap.size 44 2 v (tamed l).length (cells2 (tamed l)) ∧ Gr [] w w' := by
  obtain ⟨i0, hi0, hz0, hz1, hz2⟩ := info_parts infoI15
  obtain ⟨M, hM⟩ : ∃ M, M = min N 20 := ⟨_, rfl⟩
  have hmn := minZ Try.prog (N : Int) 20 (M : Int) (by omega)
  have hM1 : M ≤ N := by omega
  have hM2 : M ≤ 20 := by omega
  have hM3 : M ≤ cap := by omega
  have HR := Lib.hid h
  have HN := Lib.hid hN
  have HM := Lib.hid hM
  clear h hN hM
  go_enter Try.func40, Try.ntmps40
  go_wp2_with fail
  clear hmn
  go_loopw [3, 15] (fun v i wr => ∃ k : Nat, k ≤ M ∧ i = .int .i64 k ∧ wr.ownsRow w.heap.size 3 1 v (blk ((l.take k).map tmE)).length (cellsZ (blk ((l.take k).map tmE))) ∧ Gr [] w wr) (fun _ i _ => M - (intOf i).toNat)
  case atStart => exact ⟨0, by omega, rfl, World.ownsRow_nil _ _ _ _, Gr.refl _ _⟩
  case round =>
    obtain ⟨k, hk, rfl, ho, G⟩ := hrel
    have HQ := Lib.hid (And.intro ho G)
    have hsz := G.size
    clear ho G
    by_cases hkM : k < M
    · have hkM2 : (k : Int) < (M : Int) := by omega
      obtain ⟨⟨x1, x2⟩, hx⟩ : ∃ x, l[k]? = some x := ⟨_, List.getElem?_eq_getElem (by have := HN.out; omega)⟩
      obtain ⟨hb, c1, c2⟩ := HR.out.at hx
      have y0 : wr.cell? ⟨b, o + k * 2, none⟩ = some (.int .i64 x1) := (HQ.out.2.cell0 hb).trans c1
      have y1 : wr.cell? ⟨b, o + k * 2 + 1, none⟩ = some (.int .i64 x2) := (HQ.out.2.cell0 hb).trans c2
      have HTK := Lib.hid (show blk ((l.take (k + 1)).map tmE) = blk ((l.take k).map tmE) ++ blkR (tmE (x1, x2)) by
        rw [take_snoc hx, List.map_append, blk_append]; simp [blk])
      have HBS := Lib.hid (show (blk ((l.take k).map tmE)).length ≤ 200 by
        have := blk_short (tm_all (l.take k))
        rw [List.length_map, List.length_take] at this
        omega)
      clear c1 c2 hx
      obtain ⟨t, ht⟩ : ∃ t, t = (tmE (x1, x2)).1 := ⟨_, rfl⟩
      obtain ⟨n, hn⟩ : ∃ n : Nat, (n : Int) = 1 + mx x2 % 9 := ⟨(1 + mx x2 % 9).toNat, by have := mx_nonneg x2; omega⟩
      have htm : tmE (x1, x2) = (t, (n : Int)) := by rw [ht, hn]; rfl
      rw [htm] at HTK
      have hbd := tmE_bd (x1, x2)
      rw [htm] at hbd
      simp only at hbd
      have hmx := max0 Try.prog
      have hn0 := mx_nonneg x2
      have HX := Lib.hid (Holds.new wr #[.int .i64 x1, .int .i64 x2] 44)
      have HOA := Lib.hid (HQ.out.1.alloc (Obj.cells #[.int .i64 x1, .int .i64 x2] 44))
      have HGA := Lib.hid (HQ.out.2.alloc (Obj.cells #[.int .i64 x1, .int .i64 x2] 44))
      by_cases hneg : x1 < 0
      · have hm1 := maxZ Try.prog (-1) x1 (-1) (by omega)
        have htv : t = -1 := by rw [ht]; unfold tmE; simp [hneg]
        subst htv
        clear ht htm
        go_wp2_with fail
        go_quiet (fail)
        have HQY := Lib.hid (And.intro (own_gr0 HOA.out ((Gr.refl [] (wr.alloc (Obj.cells #[.int .i64 x1, .int .i64 x2] 44))).drewN nq)) (HGA.out.drewN nq))
        generalize (wr.alloc (Obj.cells #[.int .i64 x1, .int .i64 x2] 44)).drewN nq = wy at *
        rw [← hn]
        clear hn hn0 hmx hm1 HX HOA HGA y0 y1 hb HQ
        obtain ⟨P0, hP0⟩ : ∃ P0, P0 = blk ((l.take k).map tmE) := ⟨_, rfl⟩
        rw [← hP0] at HQY HTK HBS
        clear hP0
        go_wp2_with fail
        go_loopw [3, 29] (fun v i wr => ∃ (j : Nat) (C : List Int), j ≤ n ∧ i = .int .i64 j ∧ Hid (C = P0 ++ blkR ((-1), (j : Int))) ∧ wr.ownsRow w.heap.size 3 1 v C.length (cellsZ C) ∧ Gr [] w wr) (fun _ i _ => n - (intOf i).toNat)
        case atStart => exact ⟨0, P0, by omega, rfl, Lib.hid (by simp [blkR]), HQY.out.1, HQY.out.2⟩
        case round =>
          clear HQY
          obtain ⟨j, C, hj, rfl, HC, ho, G⟩ := hrel
          have HQ2 := Lib.hid (And.intro ho G)
          have hsz2 := G.size
          clear ho G
          by_cases hjn : j < n
          · have hjn2 : (j : Int) < (n : Int) := by omega
            have HUP := Lib.hid (show C ++ [(-1)] = P0 ++ blkR ((-1), ((j + 1 : Nat) : Int)) by
              rw [show ((j + 1 : Nat) : Int) = (j : Int) + 1 by omega, blkR_up, HC.out, List.append_assoc]
              simp)
            have hCl : C.length ≤ 300 := by
              rw [HC.out, List.length_append, blkR_len]
              have := HBS.out
              simp only
              omega
            have HN3 := Lib.hid (Holds.new wr #[.int .i64 (-1)] 3)
            have HO3 := Lib.hid (HQ2.out.1.alloc (Obj.cells #[.int .i64 (-1)] 3))
            have hone : ∀ u ∈ [Value.int .i64 (-1)], u.oneCell' = true := by simp [Value.oneCell']
            have hw : IntKind.i64.wrap (-1) = (-1) := IntWalk.i64_in _ (by omega)
            go_wp2_with (at_builtin; refine wpList_append_own _ rfl _ _ 47 rfl w.heap.size 3 i0 _ 1 8 Try.underlying47 hi0 hz0 hz1 hz2 rfl (by decide) _ _ _ rfl HO3.out ⟨wr.heap.size, 0, none⟩ 1 1 [.int .i64 (-1)] rfl rfl (World.news_of_block HN3.out) hone (by unfold maxLen; omega) (by omega) (by rw [World.size_alloc]; omega) ?_)
            intro v4 w4 hown4 hgrow4 _
            have hlt4 := HO3.out.lt
            have HF := Lib.hid (And.intro (show w4.ownsRow w.heap.size 3 1 v4 (C ++ [(-1)]).length (cellsZ (C ++ [(-1)])) by
              rw [List.length_append, cellsZ_append]; exact hown4) ((HQ2.out.2.alloc (Obj.cells #[.int .i64 (-1)] 3)).nextN (gr_grown hgrow4) (fun x hx => .inr (hlt4 x (by simpa using hx)).1)))
            clear hown4 hgrow4 hlt4 HO3 HN3 hone
            go_wp2_with fail
            go_roundw
            case rel => exact ⟨j + 1, C ++ [(-1)], by omega, by go_num, HUP, HF.out.1, HF.out.2⟩
            case measure => simp [intOf]; omega
          · obtain rfl : j = n := by omega
            have HF := Lib.hid (show wr.ownsRow w.heap.size 3 1 u3 (blk ((l.take (k + 1)).map tmE)).length (cellsZ (blk ((l.take (k + 1)).map tmE))) by
              rw [HTK.out, ← HC.out]; exact HQ2.out.1)
            go_wp2_with fail
            go_roundw
            case rel => exact ⟨k + 1, by omega, by go_num, HF.out, HQ2.out.2⟩
            case measure => simp [intOf]; omega
      · have hm1 := maxZ Try.prog (-1) x1 x1 (by omega)
        have htv : x1 % 200 = t := by rw [ht]; unfold tmE; simp [hneg]
        clear ht htm
        go_wp2_with fail
        go_quiet (fail)
        have HQY := Lib.hid (And.intro (own_gr0 HOA.out ((Gr.refl [] (wr.alloc (Obj.cells #[.int .i64 x1, .int .i64 x2] 44))).drewN nq)) (HGA.out.drewN nq))
        generalize (wr.alloc (Obj.cells #[.int .i64 x1, .int .i64 x2] 44)).drewN nq = wy at *
        rw [htv, ← hn]
        have ht0 : 0 ≤ t := by omega
        clear hn hn0 hmx hm1 HX HOA HGA y0 y1 hb HQ htv
        obtain ⟨P0, hP0⟩ : ∃ P0, P0 = blk ((l.take k).map tmE) := ⟨_, rfl⟩
        rw [← hP0] at HQY HTK HBS
        clear hP0
        go_wp2_with fail
        go_loopw [3, 29] (fun v i wr => ∃ (j : Nat) (C : List Int), j ≤ n ∧ i = .int .i64 j ∧ Hid (C = P0 ++ blkR (t, (j : Int))) ∧ wr.ownsRow w.heap.size 3 1 v C.length (cellsZ C) ∧ Gr [] w wr) (fun _ i _ => n - (intOf i).toNat)
        case atStart => exact ⟨0, P0, by omega, rfl, Lib.hid (by simp [blkR]), HQY.out.1, HQY.out.2⟩
        case round =>
          clear HQY
          obtain ⟨j, C, hj, rfl, HC, ho, G⟩ := hrel
          have HQ2 := Lib.hid (And.intro ho G)
          have hsz2 := G.size
          clear ho G
          by_cases hjn : j < n
          · have hjn2 : (j : Int) < (n : Int) := by omega
            have HUP := Lib.hid (show C ++ [(t + (j : Int))] = P0 ++ blkR (t, ((j + 1 : Nat) : Int)) by
              rw [show ((j + 1 : Nat) : Int) = (j : Int) + 1 by omega, blkR_up, HC.out, List.append_assoc]
              rw [if_neg (show ¬ t = -1 by omega)])
            have hCl : C.length ≤ 300 := by
              rw [HC.out, List.length_append, blkR_len]
              have := HBS.out
              simp only
              omega
            have HN3 := Lib.hid (Holds.new wr #[.int .i64 (t + (j : Int))] 3)
            have HO3 := Lib.hid (HQ2.out.1.alloc (Obj.cells #[.int .i64 (t + (j : Int))] 3))
            have hone : ∀ u ∈ [Value.int .i64 (t + (j : Int))], u.oneCell' = true := by simp [Value.oneCell']
            have hw : IntKind.i64.wrap (t + (j : Int)) = (t + (j : Int)) := IntWalk.i64_in _ (by omega)
            go_wp2_with (at_builtin; refine wpList_append_own _ rfl _ _ 47 rfl w.heap.size 3 i0 _ 1 8 Try.underlying47 hi0 hz0 hz1 hz2 rfl (by decide) _ _ _ rfl HO3.out ⟨wr.heap.size, 0, none⟩ 1 1 [.int .i64 (t + (j : Int))] rfl rfl (World.news_of_block HN3.out) hone (by unfold maxLen; omega) (by omega) (by rw [World.size_alloc]; omega) ?_)
            intro v4 w4 hown4 hgrow4 _
            have hlt4 := HO3.out.lt
            have HF := Lib.hid (And.intro (show w4.ownsRow w.heap.size 3 1 v4 (C ++ [(t + (j : Int))]).length (cellsZ (C ++ [(t + (j : Int))])) by
              rw [List.length_append, cellsZ_append]; exact hown4) ((HQ2.out.2.alloc (Obj.cells #[.int .i64 (t + (j : Int))] 3)).nextN (gr_grown hgrow4) (fun x hx => .inr (hlt4 x (by simpa using hx)).1)))
            clear hown4 hgrow4 hlt4 HO3 HN3 hone
            go_wp2_with fail
            go_roundw
            case rel => exact ⟨j + 1, C ++ [(t + (j : Int))], by omega, by go_num, HUP, HF.out.1, HF.out.2⟩
            case measure => simp [intOf]; omega
          · obtain rfl : j = n := by omega
            have HF := Lib.hid (show wr.ownsRow w.heap.size 3 1 u3 (blk ((l.take (k + 1)).map tmE)).length (cellsZ (blk ((l.take (k + 1)).map tmE))) by
              rw [HTK.out, ← HC.out]; exact HQ2.out.1)
            go_wp2_with fail
            go_roundw
            case rel => exact ⟨k + 1, by omega, by go_num, HF.out, HQ2.out.2⟩
            case measure => simp [intOf]; omega
    · obtain rfl : k = M := by omega
      have hE : (l.take k).map tmE = (l.take 20).map tmE := by
        have h1 := HM.out
        have h2 := HN.out
        rw [h1, h2]
        congr 1
        by_cases q : l.length ≤ 20
        · rw [Nat.min_eq_left q, List.take_length, List.take_of_length_le q]
        · rw [Nat.min_eq_right (by omega)]
      rw [hE] at HQ
      have HTM := Lib.hid (show runsP (blk ((l.take 20).map tmE)) = tamed l from runs_blk ((l.take 20).map tmE) (fun e he => by have := tm_all (l.take 20) e he; exact ⟨this.1, this.2.2.1⟩))
      have hSH := blk_short (tm_all (l.take 20))
      rw [List.length_map, List.length_take] at hSH
      have HBM := Lib.hid (blk_mem (tm_all (l.take 20)))
      obtain ⟨B, hB⟩ : ∃ B, B = blk ((l.take 20).map tmE) := ⟨_, rfl⟩
      rw [← hB] at HQ HTM HBM hSH
      obtain ⟨aa, cc, rfl⟩ := own_form HQ.out.1
      have hBl : B.length ≤ 1000000 := by omega
      have HRZ := Lib.hid (own_rdZ HQ.out.1)
      have HRN := Lib.hid (rruns_any B B.length aa cc wr HRZ.out rfl HBM.out hBl)
      clear hB hE hSH
      go_wp2_with fail
      refine HRN.out.mono ?_
      rintro e w2 ⟨v, rfl, ho, g⟩
      rw [HTM.out] at ho
      have HF := Lib.hid (And.intro (ho.mono HQ.out.2.size) (HQ.out.2.next0 g))
      clear ho g
      go_wp2_with fail
      go_ret
      exact ⟨_, rfl, HF.out.1, HF.out.2⟩

end Go.Proofs.Ytpkhfdcokcchdaa
