/-
  The document's list of what is open: Add, Seek, Close.
-/
import Derived.Test.YtpkhfdcokcchdaaDesI
import Derived.Deep.AppendLies
import Derived.Deep.Onto
namespace Go.Proofs.Ytpkhfdcokcchdaa
open Go.RowKit

theorem gr_grown5 {w w' : World} {row : Option Nat} (h : w.grownBy w' row) : Gr row.toList w w' := ⟨h.os, h.tape, h.output, h.size, fun i hi hn => h.block i hi (fun e => hn (by rw [← e]; simp))⟩
/-- The blocks that the tables lie in. -/
def tabB (bm : Nat) (v : Value) : List Nat := bm :: v.ownBlock.toList
theorem RTab.grT {W W' : World} {bm n : Nat} {L : List OpenR} {v : Value} (h : RTab W bm n L v) {v' : Value} {L' : List OpenR} (ho : W'.ownsRow (bm + 1) 127 5 v' L'.length (cells5 L')) (hg : Gr v.ownBlock.toList W W') (hlt : ∀ b, v.ownBlock = some b → bm < b) :
    RTab (W'.setCell ⟨bm, 1, none⟩ v') bm n L' v' ∧ Gr (tabB bm v) W (W'.setCell ⟨bm, 1, none⟩ v') := by
  have h1 : Holds W' bm #[.int .i64 n, v] 114 := h.head.gr hg (fun e => by have := hlt bm (by simpa using e); omega)
  have g : Gr [bm] W' (W'.setCell ⟨bm, 1, none⟩ v') := (Gr.refl _ _).setCell (p := ⟨bm, 1, none⟩) (.inl (by simp)) _
  refine ⟨⟨h1.set 1 v', own_gr ho g (fun b hb => by have := (ho.lt b hb).1; simp; omega)⟩, ?_⟩
  exact ((hg.mono (cs := tabB bm v) (fun b hb => List.mem_cons_of_mem _ hb)).trans (g.mono (cs := tabB bm v) (fun b hb => by simp at hb; subst hb; exact List.mem_cons_self)))
theorem RTab.lt {W : World} {bm n : Nat} {L : List OpenR} {v : Value} (h : RTab W bm n L v) : ∀ b ∈ tabB bm v, bm ≤ b ∧ b < W.heap.size := by
  intro b hb
  rcases List.mem_cons.1 hb with rfl | hb
  · exact ⟨Nat.le_refl _, h.head.lt⟩
  · have := h.row.lt b (by simpa using hb); exact ⟨by omega, this.2⟩

theorem radd_arg (bm n : Nat) (L : List OpenR) (v : Value) (c N F : Int) (w : World) (h : RTab w bm n L v) (hb : (c < 0 ∨ n ≤ c) ∨ F < 1 ∨ 7 < F) :
    Calls Try.prog 62 #[.pointer (some ⟨bm, 0, none⟩), .int .i64 c, .int .i64 N, .int .i64 F] w fun e w' => e = .returned (.tuple #[.int .i64 0, .int .i64 2]) ∧ Gr [] w w' := by
  have c0 := h.head.cell 0
  have HG := Lib.hid (Gr.refl [] w)
  clear h
  by_cases h0 : c < 0
  · have d0 : decide (c < 0) = true := by simpa using h0
    clear hb
    go_enter Try.func62, Try.ntmps62
    go_wp2_with fail
    exact bodyPost_ret (v := .tuple #[.int .i64 0, .int .i64 2]) (by simp [results, Try.results62, go_sem]) rfl ⟨rfl, HG.out⟩
  · have d0 : decide (c < 0) = false := by simpa using h0
    by_cases h1 : (n : Int) ≤ c
    · have d1 : decide ((n : Int) ≤ c) = true := by simpa using h1
      clear hb
      go_enter Try.func62, Try.ntmps62
      go_wp2_with fail
      exact bodyPost_ret (v := .tuple #[.int .i64 0, .int .i64 2]) (by simp [results, Try.results62, go_sem]) rfl ⟨rfl, HG.out⟩
    · have d1 : decide ((n : Int) ≤ c) = false := by simpa using h1
      by_cases h2 : F < 1
      · have d2 : decide (F < 1) = true := by simpa using h2
        clear hb
        go_enter Try.func62, Try.ntmps62
        go_wp2_with fail
        exact bodyPost_ret (v := .tuple #[.int .i64 0, .int .i64 2]) (by simp [results, Try.results62, go_sem]) rfl ⟨rfl, HG.out⟩
      · have d2 : decide (F < 1) = false := by simpa using h2
        have h3 : 7 < F := by omega
        have d3 : decide (7 < F) = true := by simpa using h3
        clear hb
        go_enter Try.func62, Try.ntmps62
        go_wp2_with fail
        exact bodyPost_ret (v := .tuple #[.int .i64 0, .int .i64 2]) (by simp [results, Try.results62, go_sem]) rfl ⟨rfl, HG.out⟩

set_option maxHeartbeats 4000000 in
set_option maxRecDepth 20000 in
theorem radd_in (bm n : Nat) (L : List OpenR) (v : Value) (c N F : Int) (w : World) (h : RTab w bm n L v) (hc : 0 ≤ c ∧ c < n) (hF : 1 ≤ F ∧ F ≤ 7) (hL : L.length ≤ 60000) :
    Calls Try.prog 62 #[.pointer (some ⟨bm, 0, none⟩), .int .i64 c, .int .i64 N, .int .i64 F] w fun e w' =>
      ((∀ j : Nat, j < 16 → findR L c j ≠ none) ∧ e = .returned (.tuple #[.int .i64 0, .int .i64 7]) ∧ Gr [] w w') ∨
      ∃ (k : Nat) (v' : Value), k < 16 ∧ findR L c k = none ∧ (∀ j : Nat, j < k → findR L c j ≠ none) ∧ e = .returned (.tuple #[.int .i64 k, .int .i64 0]) ∧ RTab w' bm n (L ++ [⟨c, k, N, F, 0⟩]) v' ∧ Gr (tabB bm v) w w' := by
  obtain ⟨i0, hi0, hz0, hz1, hz2⟩ := info_parts infoOpn
  have HR := Lib.hid h
  have c0 := h.head.cell 0
  clear h
  have d0 : decide (c < 0) = false := by simp; omega
  have d1 : decide ((n : Int) ≤ c) = false := by simp; omega
  have d2 : decide (F < 1) = false := by simp; omega
  have d3 : decide (7 < F) = false := by simp; omega
  have HF := Lib.hid (And.intro hc (And.intro hF hL))
  clear hc hF
  go_enter Try.func62, Try.ntmps62
  go_wp2_with fail
  clear c0 d0 d1 d2 d3
  go_loopw [10] (fun i wr => ∃ k : Nat, k ≤ 16 ∧ i = .int .i64 k ∧ Gr [] w wr ∧ Hid (∀ j : Nat, j < k → findR L c j ≠ none)) (fun i _ => 16 - (intOf i).toNat)
  case atStart => exact ⟨0, by omega, rfl, Gr.refl _ _, Lib.hid (fun j hj => by omega)⟩
  case round =>
    obtain ⟨k, hk, rfl, G, HB⟩ := hrel
    have HG := Lib.hid G
    clear G
    by_cases hk16 : k < 16
    · have hkl : (k : Int) < 16 := by omega
      cases q : findR L c (k : Int) with
      | some i =>
        have HC := Lib.hid (rfind_some bm n i L v c k wr (HR.out.gr0 HG.out) HF.out.1 (by omega) q)
        have HB2 := Lib.hid (show ∀ j : Nat, j < k + 1 → findR L c j ≠ none from fun j hj => by
          by_cases e : j = k
          · subst e; rw [q]; simp
          · exact HB.out j (by omega))
        clear q
        go_wp2_with fail
        refine HC.out.mono ?_
        rintro e w5 ⟨rfl, g5⟩
        have HG5 := Lib.hid (HG.out.next0 g5)
        clear g5
        go_wp2_with fail
        go_roundw
        case rel => exact ⟨k + 1, by omega, by go_num, HG5.out, HB2⟩
        case measure => simp [intOf]; omega
      | none =>
        have HC := Lib.hid (rfind_none bm n L v c k wr (HR.out.gr0 HG.out) HF.out.1 (by omega) q)
        have HQ := Lib.hid q
        clear q
        go_wp2_with fail
        refine HC.out.mono ?_
        rintro e w5 ⟨rfl, g5⟩
        have H5 := Lib.hid (HR.out.gr0 (HG.out.next0 g5))
        have HG5 := Lib.hid (HG.out.next0 g5)
        clear g5 HC
        have c1 := H5.out.head.cell 1
        have hsz : bm + 1 ≤ w5.heap.size := H5.out.head.lt
        have HN3 := Lib.hid (Holds.new w5 #[.int .i64 c, .int .i64 k, .int .i64 N, .int .i64 F, .int .i64 0] 127)
        have HO3 := Lib.hid (H5.out.row.alloc (Obj.cells #[.int .i64 c, .int .i64 k, .int .i64 N, .int .i64 F, .int .i64 0] 127))
        have HX3 := Lib.hid (H5.out.gr0 ((Gr.refl [] w5).alloc (Obj.cells #[.int .i64 c, .int .i64 k, .int .i64 N, .int .i64 F, .int .i64 0] 127)))
        have hone : ∀ u ∈ [Value.int .i64 c, .int .i64 (k : Int), .int .i64 N, .int .i64 F, .int .i64 0], u.oneCell' = true := by simp [Value.oneCell']
        go_wp2_with (at_builtin; refine wpList_append_own _ rfl _ _ 112 rfl (bm + 1) 127 i0 _ 5 40 Try.underlying112 hi0 hz0 hz1 hz2 rfl (by decide) _ _ _ rfl HO3.out ⟨w5.heap.size, 0, none⟩ 1 1 [.int .i64 c, .int .i64 k, .int .i64 N, .int .i64 F, .int .i64 0] rfl rfl (World.news_of_block HN3.out) hone (by unfold maxLen; omega) (by omega) (by rw [World.size_alloc]; omega) ?_)
        intro v4 w4 hown4 hgrow4 _
        obtain ⟨a4, cp4, hv4, -⟩ := own_sh hown4
        subst hv4
        have hg4 := gr_grown5 hgrow4
        have hlt4 := HO3.out.lt
        have hown5 : w4.ownsRow (bm + 1) 127 5 (.slice a4 (L.length + 1) cp4) (L ++ [(⟨c, k, N, F, 0⟩ : OpenR)]).length (cells5 (L ++ [(⟨c, k, N, F, 0⟩ : OpenR)])) := by
          rw [List.length_append, cells5_append]
          exact hown4
        obtain ⟨hR6, hG6⟩ := HX3.out.grT hown5 hg4 (fun b hb => by have := (hlt4 b hb).1; omega)
        have c1 : w4.cell? ⟨bm, 1, none⟩ = some v := (HX3.out.head.gr hg4 (fun e => by have := (hlt4 bm (by simpa using e)).1; omega)).cell 1
        have f1 : w4.frozen? ⟨bm, 1, none⟩ = false := (HX3.out.head.gr hg4 (fun e => by have := (hlt4 bm (by simpa using e)).1; omega)).frozen 1
        have H6 := Lib.hid (And.intro hR6 (show Gr (tabB bm v) w (w4.setCell ⟨bm, 1, none⟩ (.slice a4 (L.length + 1) cp4)) from ((HG5.out.mono (cs := tabB bm v) (fun b hb => by simp at hb)).trans (((Gr.refl [] w5).alloc (Obj.cells #[.int .i64 c, .int .i64 k, .int .i64 N, .int .i64 F, .int .i64 0] 127)).mono (cs := tabB bm v) (fun b hb => by simp at hb))).trans hG6))
        clear hown4 hown5 hgrow4 hg4 hlt4 hR6 hG6 HO3 HN3 HX3 hone
        go_wp2_with fail
        exact bodyPost_ret (v := .tuple #[.int .i64 k, .int .i64 0]) (by simp [results, Try.results62, go_sem]) rfl (.inr ⟨k, _, hk16, HQ.out, HB.out, rfl, H6.out.1, H6.out.2⟩)
    · obtain rfl : k = 16 := by omega
      go_wp2_with fail
      exact bodyPost_ret (v := .tuple #[.int .i64 0, .int .i64 7]) (by simp [results, Try.results62, go_sem]) rfl (.inl ⟨HB.out, rfl, HG.out⟩)

theorem rseek_err (bm e0 : Nat) (c f a : Int) (w : World) (he : e0 ≠ 0) (hf : Calls Try.prog 64 #[.pointer (some ⟨bm, 0, none⟩), .int .i64 c, .int .i64 f] w fun e w' => e = .returned (.tuple #[.int .i64 0, .int .i64 e0]) ∧ Gr [] w w') :
    Calls Try.prog 66 #[.pointer (some ⟨bm, 0, none⟩), .int .i64 c, .int .i64 f, .int .i64 a] w fun e w' => e = .returned (.int .i64 e0) ∧ Gr [] w w' := by
  have HF := Lib.hid hf
  have de : ((e0 : Int) != 0) = true := by simp; omega
  clear hf he
  go_enter Try.func66, Try.ntmps66
  go_wp2_with fail
  refine HF.out.mono ?_
  rintro e w5 ⟨rfl, g5⟩
  have HG := Lib.hid g5
  clear g5
  go_wp2_with fail
  go_ret
  exact ⟨rfl, HG.out⟩
theorem rseek_neg (bm k : Nat) (c f a : Int) (w : World) (ha : a < 0) (hf : Calls Try.prog 64 #[.pointer (some ⟨bm, 0, none⟩), .int .i64 c, .int .i64 f] w fun e w' => e = .returned (.tuple #[.int .i64 k, .int .i64 0]) ∧ Gr [] w w') :
    Calls Try.prog 66 #[.pointer (some ⟨bm, 0, none⟩), .int .i64 c, .int .i64 f, .int .i64 a] w fun e w' => e = .returned (.int .i64 23) ∧ Gr [] w w' := by
  have HF := Lib.hid hf
  have da : decide (a < 0) = true := by simpa using ha
  clear hf ha
  go_enter Try.func66, Try.ntmps66
  go_wp2_with fail
  refine HF.out.mono ?_
  rintro e w5 ⟨rfl, g5⟩
  have HG := Lib.hid g5
  clear g5
  go_wp2_with fail
  go_ret
  exact ⟨rfl, HG.out⟩
theorem rseek_ok (bm n k : Nat) (L : List OpenR) (v : Value) (x : OpenR) (c f a : Int) (w : World) (h : RTab w bm n L v) (hk : L[k]? = some x) (hL : L.length ≤ 65536) (ha : 0 ≤ a) (hf : Calls Try.prog 64 #[.pointer (some ⟨bm, 0, none⟩), .int .i64 c, .int .i64 f] w fun e w' => e = .returned (.tuple #[.int .i64 k, .int .i64 0]) ∧ Gr [] w w') :
    Calls Try.prog 66 #[.pointer (some ⟨bm, 0, none⟩), .int .i64 c, .int .i64 f, .int .i64 a] w fun e w' => e = .returned (.int .i64 0) ∧ RTab w' bm n (L.set k { x with a := a }) v ∧ Gr (tabB bm v) w w' := by
  have HF := Lib.hid hf
  have HR := Lib.hid h
  have da : decide (a < 0) = false := by simpa using ha
  have hkl := (List.getElem?_eq_some_iff.1 hk).1
  obtain ⟨g, cp, hv, hcp, hg1, hg2, -⟩ := h.at hk
  subst hv
  have HK := Lib.hid hk
  obtain ⟨N, hN⟩ : ∃ N, N = L.length := ⟨_, rfl⟩
  rw [← hN] at hkl hL hcp
  have HN := Lib.hid hN
  clear hf h ha hk
  go_enter Try.func66, Try.ntmps66
  go_wp2_with fail
  refine HF.out.mono ?_
  rintro e w5 ⟨rfl, g5⟩
  have H5 := Lib.hid (And.intro (HR.out.gr0 g5) g5)
  have c1 := H5.out.1.head.cell 1
  rw [← hN] at c1
  obtain ⟨g', cp', hv, -, -, -, -, -, -, -, x4⟩ := H5.out.1.at HK.out
  injection hv with q1 q2 q3
  injection q1 with q1
  injection q1 with q1
  subst q1
  have f4 : w5.frozen? ⟨g, k * 5 + 4, none⟩ = false := H5.out.1.row.frozenAt _
  have H6 := Lib.hid (show RTab (w5.setCell ⟨g, k * 5 + 4, none⟩ (.int .i64 a)) bm n (L.set k { x with a := a }) (.slice (some ⟨g, 0, none⟩) L.length cp) ∧ Gr (tabB bm (.slice (some ⟨g, 0, none⟩) L.length cp)) w (w5.setCell ⟨g, k * 5 + 4, none⟩ (.int .i64 a)) from by
    have hs := (H5.out.1.row.stored (k * 5 + 4) (.int .i64 a)).1
    rw [cells5_set L k x a HK.out] at hs
    have gs : Gr [g] w5 (w5.setCell ⟨g, k * 5 + 4, none⟩ (.int .i64 a)) := (Gr.refl _ _).setCell (p := ⟨g, k * 5 + 4, none⟩) (.inl (by simp)) _
    refine ⟨⟨H5.out.1.head.gr gs (by simp; omega), by rw [List.length_set]; exact hs⟩, ((H5.out.2.mono (cs := tabB bm (.slice (some ⟨g, 0, none⟩) L.length cp)) (fun b hb => by simp at hb)).trans (gs.mono (cs := tabB bm (.slice (some ⟨g, 0, none⟩) L.length cp)) (fun b hb => by simp at hb; subst hb; simp [tabB, Value.ownBlock])))⟩)
  clear g5 q2 q3 hN
  go_wp2_with fail
  go_ret
  exact ⟨rfl, H6.out.1, H6.out.2⟩

theorem erase_ne {L : List OpenR} {i k : Nat} {x : OpenR} (h : L[i]? = some x) (hne : i ≠ k) : (L.take (i + 1)).eraseIdx k = (L.take i).eraseIdx k ++ [x] := by
  obtain ⟨h1, h2⟩ := List.getElem?_eq_some_iff.1 h
  rw [List.take_succ_eq_append_getElem h1, h2]
  rcases Nat.lt_or_ge k i with q | q
  · rw [List.eraseIdx_append_of_lt_length (by rw [List.length_take]; omega)]
  · rw [List.eraseIdx_of_length_le (by simp; omega), List.eraseIdx_of_length_le (by simp; omega)]
theorem erase_eq {L : List OpenR} {k : Nat} (h : k < L.length) : (L.take (k + 1)).eraseIdx k = (L.take k).eraseIdx k := by
  rw [List.take_succ_eq_append_getElem h, List.eraseIdx_append_of_length_le (by rw [List.length_take]; omega), List.eraseIdx_of_length_le (l := L.take k) (by simp; omega)]
  rw [List.length_take, Nat.min_eq_left (by omega), Nat.sub_self]
  simp
theorem rclose_err (bm e0 : Nat) (c f : Int) (w : World) (he : e0 ≠ 0) (hf : Calls Try.prog 64 #[.pointer (some ⟨bm, 0, none⟩), .int .i64 c, .int .i64 f] w fun e w' => e = .returned (.tuple #[.int .i64 0, .int .i64 e0]) ∧ Gr [] w w') :
    Calls Try.prog 68 #[.pointer (some ⟨bm, 0, none⟩), .int .i64 c, .int .i64 f] w fun e w' => e = .returned (.tuple #[.int .i64 0, .int .i64 e0]) ∧ Gr [] w w' := by
  have HF := Lib.hid hf
  have de : ((e0 : Int) != 0) = true := by simp; omega
  clear hf he
  go_enter Try.func68, Try.ntmps68
  go_wp2_with fail
  refine HF.out.mono ?_
  rintro e w5 ⟨rfl, g5⟩
  have HG := Lib.hid g5
  clear g5
  go_wp2_with fail
  exact bodyPost_ret (v := .tuple #[.int .i64 0, .int .i64 e0]) (by simp [results, Try.results68, go_sem]) rfl ⟨rfl, HG.out⟩
set_option maxHeartbeats 4000000 in
set_option maxRecDepth 20000 in
theorem rclose_ok (bm n k : Nat) (L : List OpenR) (v : Value) (x : OpenR) (c f : Int) (w : World) (h : RTab w bm n L v) (hk : L[k]? = some x) (hL : L.length ≤ 65536) (hf : Calls Try.prog 64 #[.pointer (some ⟨bm, 0, none⟩), .int .i64 c, .int .i64 f] w fun e w' => e = .returned (.tuple #[.int .i64 k, .int .i64 0]) ∧ Gr [] w w') :
    Calls Try.prog 68 #[.pointer (some ⟨bm, 0, none⟩), .int .i64 c, .int .i64 f] w fun e w' => e = .returned (.tuple #[.int .i64 x.n, .int .i64 0]) ∧ ∃ v', RTab w' bm n (L.eraseIdx k) v' ∧ Gr (tabB bm v) w w' := by
  obtain ⟨i0, hi0, hz0, hz1, hz2⟩ := info_parts infoOpn
  have HF := Lib.hid hf
  have HR := Lib.hid h
  have hkl := (List.getElem?_eq_some_iff.1 hk).1
  obtain ⟨g, cp, hv, hcp, hg1, hg2, -⟩ := h.at hk
  subst hv
  have HK := Lib.hid hk
  obtain ⟨N, hN⟩ : ∃ N, N = L.length := ⟨_, rfl⟩
  rw [← hN] at hkl hL hcp
  have HN := Lib.hid hN
  clear hf h hk
  go_enter Try.func68, Try.ntmps68
  go_wp2_with fail
  refine HF.out.mono ?_
  rintro e w5 ⟨rfl, g5⟩
  have H5 := Lib.hid (And.intro (HR.out.gr0 g5) g5)
  have hbm : bm + 1 ≤ w5.heap.size := H5.out.1.head.lt
  have hg5 : g < w5.heap.size := Nat.lt_of_lt_of_le hg2 g5.size
  have c1 := H5.out.1.head.cell 1
  rw [← hN] at c1
  obtain ⟨g', cp', hv, -, -, -, -, -, x2, -, -⟩ := H5.out.1.at HK.out
  injection hv with q1 q2 q3
  injection q1 with q1
  injection q1 with q1
  subst q1
  clear g5 q2 q3 hN HF
  go_wp2_with fail
  clear x2
  go_loopw [11, 12] (fun o i wr => ∃ j : Nat, j ≤ N ∧ i = .int .i64 j ∧ wr.ownsRow w5.heap.size 127 5 o ((L.take j).eraseIdx k).length (cells5 ((L.take j).eraseIdx k)) ∧ Gr [] w5 wr) (fun _ i _ => N - (intOf i).toNat)
  case atStart => exact ⟨0, by omega, rfl, by simpa [cells5] using World.ownsRow_nil _ _ _ _, Gr.refl _ _⟩
  case round =>
    obtain ⟨j, hj, rfl, ho, G⟩ := hrel
    have HQ := Lib.hid (And.intro ho G)
    have hsz := G.size
    have c1 : wr.cell? ⟨bm, 1, none⟩ = some (.slice (some ⟨g, 0, none⟩) N cp) := (G.cell0 (by omega)).trans c1
    clear ho G
    by_cases hjN : j < N
    · have hjN2 : (j : Int) < (N : Int) := by omega
      by_cases hjk : j = k
      · have hjk2 : ((j : Int) != (k : Int)) = false := by simp; omega
        have hjk3 : (j : Int) = (k : Int) := by omega
        have HE := Lib.hid (show (L.take (j + 1)).eraseIdx k = (L.take j).eraseIdx k by rw [hjk]; exact erase_eq (by have := HN.out; omega))
        clear hjk3
        go_wp2_with fail
        go_roundw
        case rel => exact ⟨j + 1, by omega, by go_num, by rw [HE.out]; exact HQ.out.1, HQ.out.2⟩
        case measure => simp [intOf]; omega
      · have hjk2 : ((j : Int) != (k : Int)) = true := by simp; omega
        have hjk3 : ¬ (j : Int) = (k : Int) := by omega
        obtain ⟨y, hy⟩ : ∃ y, L[j]? = some y := ⟨_, List.getElem?_eq_getElem (by have := HN.out; omega)⟩
        obtain ⟨g', cp', hv, -, -, -, y0, y1, y2, y3, y4⟩ := (H5.out.1.gr0 HQ.out.2).at hy
        injection hv with q1 q2 q3
        injection q1 with q1
        injection q1 with q1
        subst q1
        have HE := Lib.hid (erase_ne hy hjk)
        have hle : ((L.take j).eraseIdx k).length ≤ j := by
          have := List.length_eraseIdx_le (L.take j) k
          rw [List.length_take] at this
          omega
        obtain ⟨q, hq⟩ : ∃ q, q = ((L.take j).eraseIdx k).length := ⟨_, rfl⟩
        rw [← hq] at HQ hle
        have HQQ := Lib.hid hq
        have HN3 := Lib.hid (Holds.new wr #[.int .i64 y.c, .int .i64 y.f, .int .i64 y.n, .int .i64 y.g, .int .i64 y.a] 127)
        have HO3 := Lib.hid (HQ.out.1.alloc (Obj.cells #[.int .i64 y.c, .int .i64 y.f, .int .i64 y.n, .int .i64 y.g, .int .i64 y.a] 127))
        clear hy q2 q3 hjk hq
        go_wp2_with (at_builtin; refine wpList_append_own _ rfl _ _ 112 rfl w5.heap.size 127 i0 _ 5 40 Try.underlying112 hi0 hz0 hz1 hz2 rfl (by decide) _ _ _ rfl HO3.out ⟨wr.heap.size, 0, none⟩ 1 1 (five y) rfl rfl (World.news_of_block HN3.out) (five_one y) (by unfold maxLen; omega) (by omega) (by rw [World.size_alloc]; omega) ?_)
        intro v4 w4 hown4 hgrow4 _
        have hlt4 := HO3.out.lt
        have H6 := Lib.hid (And.intro (show w4.ownsRow w5.heap.size 127 5 v4 ((L.take (j + 1)).eraseIdx k).length (cells5 ((L.take (j + 1)).eraseIdx k)) by
          rw [HE.out, List.length_append, cells5_append, ← HQQ.out]; exact hown4) ((HQ.out.2.alloc (Obj.cells #[.int .i64 y.c, .int .i64 y.f, .int .i64 y.n, .int .i64 y.g, .int .i64 y.a] 127)).nextN (gr_grown5 hgrow4) (fun x hx => .inr (hlt4 x (by simpa using hx)).1)))
        clear hown4 hgrow4 hlt4 HO3 HN3 y0 y1 y2 y3 y4 HQ
        go_wp2_with fail
        go_roundw
        case rel => exact ⟨j + 1, by omega, by go_num, H6.out.1, H6.out.2⟩
        case measure => simp [intOf]; omega
    · obtain rfl : j = N := by omega
      have ht : L.take j = L := by rw [HN.out]; exact List.take_length
      rw [ht] at HQ
      obtain ⟨ao4, cp4, hv4, -⟩ := own_sh HQ.out.1
      subst hv4
      have f1 : wr.frozen? ⟨bm, 1, none⟩ = false := (H5.out.1.head.gr0 HQ.out.2).frozen 1
      have H6 := Lib.hid (show RTab (wr.setCell ⟨bm, 1, none⟩ (.slice ao4 (L.eraseIdx k).length cp4)) bm n (L.eraseIdx k) (.slice ao4 (L.eraseIdx k).length cp4) ∧ Gr (tabB bm (.slice (some ⟨g, 0, none⟩) L.length cp)) w (wr.setCell ⟨bm, 1, none⟩ (.slice ao4 (L.eraseIdx k).length cp4)) from by
        obtain ⟨r1, r2⟩ := (H5.out.1.gr0 HQ.out.2).grT (v' := .slice ao4 (L.eraseIdx k).length cp4) (L' := L.eraseIdx k) (HQ.out.1.mono hbm) (Gr.refl _ _) (fun b hb => by simp [Value.ownBlock] at hb; omega)
        exact ⟨r1, (((H5.out.2.next0 HQ.out.2).mono (cs := tabB bm (.slice (some ⟨g, 0, none⟩) L.length cp)) (fun b hb => by simp at hb)).trans r2)⟩)
      clear ht HQ
      go_wp2_with fail
      exact bodyPost_ret (v := .tuple #[.int .i64 x.n, .int .i64 0]) (by simp [results, Try.results68, go_sem]) rfl ⟨rfl, _, H6.out.1, H6.out.2⟩

end Go.Proofs.Ytpkhfdcokcchdaa
