/-
  Layer 24: the document's Step.
-/
import Derived.Test.YtlafmdpcabgcdaaLkQ
namespace Go.Proofs.Ytlafmdpcabgcdaa
open Go.RowKit

section
variable {w : World} {r : RlA} {C : Int} {hs ws : List (Int × Int)}
theorem rstep_out (c : Int) (h : RlS w r C hs ws) (hc : c < 0 ∨ C ≤ c) :
    Calls Try.prog 13 #[.pointer (some ⟨r.b, 0, none⟩), .int .i64 c] w fun e w' => e = .returned (.tuple #[.bool false, .int .i64 2]) ∧ w' = w := by
  have HB := rbad_at c h
  rw [decide_eq_true hc] at HB
  have HB := Lib.hid HB
  clear h hc
  go_enter Try.func13, Try.ntmps13
  go_wp2_with (go_at_call 23; refine HB.out.mono ?_; rintro e w' ⟨rfl, hw⟩; rw [hw])
  go_ret2
  exact ⟨rfl, rfl⟩
theorem rstep_none (c : Int) (h : RlS w r C hs ws) (hc : 0 ≤ c ∧ c < C) (hl2 : ws.length ≤ 1000) (hw : ofP ws c = []) :
    Calls Try.prog 13 #[.pointer (some ⟨r.b, 0, none⟩), .int .i64 c] w fun e w' => e = .returned (.tuple #[.bool true, .int .i64 0]) ∧ Gr [] w w' := by
  have HB := rbad_at c h
  rw [decide_eq_false (by omega)] at HB
  have HB := Lib.hid HB
  have HW := wanted_at c h hl2
  rw [hw] at HW
  have HW := Lib.hid HW
  clear h hc hw
  go_enter Try.func13, Try.ntmps13
  go_wp2_with (go_at_call 23; refine HB.out.mono ?_; rintro e w' ⟨rfl, hw⟩; rw [hw])
  go_at_call 24
  refine HW.out.mono ?_
  rintro e w1 ⟨v, rfl, ⟨ao, cap, hv, -⟩, hg, -⟩
  obtain rfl : v = .slice ao 0 cap := hv
  have HG := Lib.hid hg
  clear hg
  go_wp2_with fail
  go_ret2
  exact ⟨rfl, HG.out⟩
theorem rstep_held (c : Int) (x : Int) (l : List Int) (h : RlS w r C hs ws) (hc : 0 ≤ c ∧ c < C) (hl2 : ws.length ≤ 1000) (hw : ofP ws c = x :: l) (ho : 0 ≤ ownP hs x) :
    Calls Try.prog 13 #[.pointer (some ⟨r.b, 0, none⟩), .int .i64 c] w fun e w' => e = .returned (.tuple #[.bool false, .int .i64 0]) ∧ Gr [] w w' := by
  have HB := rbad_at c h
  rw [decide_eq_false (by omega)] at HB
  have HB := Lib.hid HB
  have HW := wanted_at c h hl2
  rw [hw] at HW
  have HW := Lib.hid HW
  have H := Lib.hid h
  obtain ⟨z, hz⟩ : ∃ z, z = ownP hs x := ⟨_, rfl⟩
  rw [← hz] at ho
  have HZ := Lib.hid (show ∀ W, RlS W r C hs ws → Calls Try.prog 28 #[.pointer (some ⟨r.b, 0, none⟩), .int .i64 x] W fun e w' => e = .returned (.int .i64 z) ∧ w' = W from fun W hW => by rw [hz]; exact rowner_at x hW)
  clear h hc hw hz
  go_enter Try.func13, Try.ntmps13
  go_wp2_with (go_at_call 23; refine HB.out.mono ?_; rintro e w' ⟨rfl, hw⟩; rw [hw])
  go_at_call 24
  refine HW.out.mono ?_
  rintro e w1 ⟨v, rfl, hv, hg, -⟩
  have HG := Lib.hid hg
  obtain ⟨k, o, cap, rfl, hk, ck, hc1, hc2⟩ := hv.first
  obtain ⟨L, hL⟩ : ∃ L, L = l.length + 1 := ⟨_, rfl⟩
  rw [← hL]
  have j0 : (((L : Nat) : Int) == 0) = false := by rw [beq_eq_false_iff_ne]; omega
  have i1 : (0 : Int) < (L : Int) := by omega
  have i3 : 0 < L := by omega
  have i2 : (L == 0) = false := by rw [beq_eq_false_iff_ne]; omega
  clear hv hg hk hL hc1 hc2
  go_wp2_with (go_at_call 28; refine (HZ.out _ (H.out.gr0 HG.out)).mono ?_; rintro e w' ⟨rfl, hw⟩; rw [hw])
  go_ret2
  exact ⟨rfl, HG.out⟩
set_option maxRecDepth 100000 in
set_option maxHeartbeats 8000000 in
theorem rstep_take (c : Int) (x : Int) (l : List Int) (h : RlS w r C hs ws) (hc : 0 ≤ c ∧ c < C) (hl : hs.length < 1000) (hl2 : ws.length ≤ 1000) (hw : ofP ws c = x :: l) (ho : ownP hs x = -1) :
    Calls Try.prog 13 #[.pointer (some ⟨r.b, 0, none⟩), .int .i64 c] w fun e w' => ∃ r', e = .returned (.tuple #[.bool (decide (l = [])), .int .i64 0]) ∧ RlS w' r' C (hs ++ [(c, x)]) (withoutP ws c x false) ∧ Gr r.all w w' ∧ NwR w r r' := by
  obtain ⟨i0, hi, hz0, hz1, hz2⟩ := info_parts infoPair
  have HB := rbad_at c h
  rw [decide_eq_false (by omega)] at HB
  have HB := Lib.hid HB
  have HW := wanted_at c h hl2
  rw [hw] at HW
  have HW := Lib.hid HW
  have H := Lib.hid h
  obtain ⟨z, hz⟩ : ∃ z, z = ownP hs x := ⟨_, rfl⟩
  have HZ := Lib.hid (show ∀ W, RlS W r C hs ws → Calls Try.prog 28 #[.pointer (some ⟨r.b, 0, none⟩), .int .i64 x] W fun e w' => e = .returned (.int .i64 (-1)) ∧ w' = W from fun W hW => by rw [← ho]; exact rowner_at x hW)
  clear h hc hw hz ho
  go_enter Try.func13, Try.ntmps13
  go_wp2_with (go_at_call 23; refine HB.out.mono ?_; rintro e w' ⟨rfl, hw⟩; rw [hw])
  go_at_call 24
  refine HW.out.mono ?_
  rintro e w1 ⟨v, rfl, hv, hg, hnb⟩
  have HG := Lib.hid hg
  obtain ⟨k, o, cap, rfl, hk, ck, hc1, hc2⟩ := hv.first
  obtain ⟨L, hL⟩ : ∃ L, L = l.length + 1 := ⟨_, rfl⟩
  rw [← hL]
  have j0 : (((L : Nat) : Int) == 0) = false := by rw [beq_eq_false_iff_ne]; omega
  have i1 : (0 : Int) < (L : Int) := by omega
  have i3 : 0 < L := by omega
  have i2 : (L == 0) = false := by rw [beq_eq_false_iff_ne]; omega
  have e9 : (L == 1) = decide (l = []) := by
    rw [Bool.eq_iff_iff, beq_iff_eq, decide_eq_true_eq, ← List.length_eq_zero_iff]; omega
  have e8 : (((L : Nat) : Int) == 1) = decide (l = []) := by
    rw [Bool.eq_iff_iff, beq_iff_eq, decide_eq_true_eq, ← List.length_eq_zero_iff]; omega
  have H1 := Lib.hid (H.out.gr0 hg)
  have hkb : w.heap.size ≤ k := hnb k rfl
  have HK := Lib.hid (And.intro hk hkb)
  clear hv hg hk hL hc1 hc2 hnb hkb
  obtain ⟨aoH, capH, aoW, capW, e1, e2, hi1⟩ := H1.out.to
  have d1 := hi1.head.cell 1
  have d1f := hi1.head.frozen 1
  have d2 := hi1.head.cell 2
  obtain ⟨N, hN⟩ : ∃ N, N = hs.length := ⟨_, rfl⟩
  obtain ⟨M, hM⟩ : ∃ M, M = ws.length := ⟨_, rfl⟩
  simp only [List.getElem?_toArray, List.getElem?_cons_succ, List.getElem?_cons_zero] at d1 d2
  rw [← hN] at d1 hl
  rw [← hM] at d2 hl2
  have HOW := H1.out.has
  rw [e1, ← hN] at HOW
  have HOW := Lib.hid HOW
  have HE := Lib.hid (And.intro e1 e2)
  have HE1 := Lib.hid (show (#[Value.int .i64 C, r.vH, r.vW] : Array Value)[1]? = some (.slice aoH N capH) by rw [e1, ← hN]; rfl)
  have HBS := Lib.hid (show r.b + 1 ≤ ((w1.alloc (Obj.cells #[.int .i64 c, .int .i64 x] 63)).drew).heap.size from Nat.le_trans (Nat.succ_le_of_lt H1.out.head.lt) (by show w1.heap.size ≤ (w1.alloc _).heap.size; rw [World.size_alloc]; omega))
  have d1a : ((w1.alloc (Obj.cells #[.int .i64 c, .int .i64 x] 63)).drew).cell? ⟨r.b, 1, none⟩ = some (.slice aoH N capH) := ((H1.out.head.gr0 ((Gr.refl [] w1).alloc (Obj.cells #[.int .i64 c, .int .i64 x] 63))).cell 1).trans HE1.out
  have HVH := Lib.hid (show r.vH = .slice aoH N capH by rw [e1, hN])
  have HOL := Lib.hid (show ∀ q, (Value.slice aoH N capH).ownBlock = some q → q < w.heap.size ∧ r.b + 1 ≤ q from fun q hq => by
    have h2 := H.out.has.lt q (by rw [e1, ← hN]; exact hq)
    exact ⟨h2.2, h2.1⟩)
  have HNM := Lib.hid (And.intro hN hM)
  have HI := Lib.hid hi1
  clear e1 e2 hN hM hi1
  go_wp2_with (go_at_call 28; refine (HZ.out _ H1.out).mono ?_; rintro e w' ⟨rfl, hw⟩; rw [hw])
  go_region_law ((have hT3 := HOW.out.alloc (Obj.cells #[.int .i64 c, .int .i64 x] 63); have hn3 := World.news_of_block (Holds.new w1 #[.int .i64 c, .int .i64 x] 63); refine step_append_lies _ rfl _ _ 28 rfl (r.b + 1) 63 i0 _ 2 16 Try.underlying28 hi hz0 hz1 hz2 rfl (by decide) (.slice aoH N capH) N (pv hs) rfl hT3 ⟨w1.heap.size, 0, none⟩ 1 1 [.int .i64 c, .int .i64 x] rfl rfl hn3 (one_pair (c, x)) Nat.one_pos (by unfold maxLen; omega) (by omega) HBS.out _ rfl ?_; intro g6 cp6 w6 hown6 hgrow6 hat6 hlt6; have hne6 : ∀ q, (Value.slice aoH N capH).ownBlock = some q → q < w.heap.size ∧ r.b + 1 ≤ q := HOL.out; have gG := ((Gr.refl [] w1).alloc (Obj.cells #[.int .i64 c, .int .i64 x] 63)).drew; have hd6 := ((H1.out.head.gr0 gG).gr (gr_grownL hgrow6) (fun q => by have := (hne6 r.b (by simpa using q)).2; omega)); have s6a : w6.cell? ⟨r.b, 1, none⟩ = some (.slice aoH N capH) := (hd6.cell 1).trans HE1.out; have s6c := hd6.cell 2; have s6f := hd6.frozen 1; have s6f2 := hd6.frozen 2; have s6b : w6.cell? ⟨k, o, none⟩ = some (.int .i64 x) := (World.cell?_of_block (w := w1) (((gr_grownL hgrow6).block k (by have := gG.size; have := HK.out.1; omega) (fun q => by have := (hne6 k (by simpa using q)).1; have := HK.out.2; omega)).trans (gG.block k HK.out.1 (by simp)))).trans ck; have HR6 := Lib.hid (H1.out.snoc hown6 (by rw [HVH.out]; exact hgrow6) (by rw [HVH.out]; exact hat6)); clear hown6 hgrow6 hat6 hlt6 hd6 hne6 hT3 hn3 gG))
  all_goals
    have HVW := Lib.hid (show r.vW = .slice aoW M capW by rw [HE.out.2, HNM.out.2])
    have hi2 := HR6.out.1.wants
    simp only at hi2
    have c2 := HR6.out.1.head.cell 2
    simp only [List.getElem?_toArray, List.getElem?_cons_succ, List.getElem?_cons_zero] at c2
    rw [HVW.out] at c2 hi2
    have c2f := HR6.out.1.head.frozen 2
    have ck2 := (World.cell?_of_block (w := w1) (a := ⟨k, o, none⟩) (HR6.out.2.1.block k HK.out.1 (fun q => by have := H.out.lt k q; have := HK.out.2; omega))).trans ck
    obtain ⟨aoW2, capW2, hW2, hrd2, -, hle2, -⟩ := own_rdp hi2
    rw [hW2] at c2
    rw [← HNM.out.2] at c2
    have HWo := Lib.hid (fun W (g : Gr [] (w6.setCell ⟨r.b, 1, none⟩ (.slice (some ⟨g6, 0, none⟩) (N + 1) cp6)) W) => without_at aoW2 ws capW2 c x false W (hrd2.gr g (fun _ _ _ => by simp)) (by rw [← HNM.out.2]; exact hl2) hle2)
    rw [← HNM.out.2] at HWo
    clear hi2 hW2 hrd2 hle2
    generalize hWW : w6.setCell ⟨r.b, 1, none⟩ (.slice (some ⟨g6, 0, none⟩) (N + 1) cp6) = W at *
    have HWW := Lib.hid hWW
    clear hWW
    go_wp2_with fail
    have HR7 : Hid (RlS W ⟨r.b, .slice (some ⟨g6, 0, none⟩) (N + 1) cp6, r.vW⟩ C (hs ++ [(c, x)]) ws ∧ Gr r.all w1 W ∧ NwR w1 r ⟨r.b, .slice (some ⟨g6, 0, none⟩) (N + 1) cp6, r.vW⟩) := HR6
    go_region_with ((go_at_call 27; refine (HWo.out _ (Gr.refl [] W).drew).mono ?_; rintro e w8 ⟨v8, rfl, hv8, g8⟩; have HN8 := Lib.hid (HR7.out.1.newW ((Gr.refl [] W).drew.next0 g8) hv8); have d8 := (HR7.out.1.head.gr0 ((Gr.refl [] W).drew.next0 g8)).cell 2; have d8f := (HR7.out.1.head.gr0 ((Gr.refl [] W).drew.next0 g8)).frozen 2; obtain ⟨ao8, cap8, rfl, -, -, -, -⟩ := own_rdp hv8; clear hv8 g8))
    all_goals
      go_wp2_with fail
      go_ret2
      exact ⟨_, rfl, HN8.out.1, (HG.out.of0.nextN HR7.out.2.1 (fun b hb => .inl hb)).nextN HN8.out.2.1 (fun b hb => by
        rcases HR7.out.2.2.1 b hb with q | q
        · exact .inl q
        · exact .inr (Nat.le_trans HG.out.size q)), (show NwR w r _ from ⟨fun b hb => by
        rcases HR7.out.2.2.1 b hb with q | q
        · exact .inl q
        · exact .inr (Nat.le_trans HG.out.size q), HR7.out.2.2.2⟩).trans HN8.out.2.2 (Nat.le_trans HG.out.size HR7.out.2.1.size)⟩
end
end Go.Proofs.Ytlafmdpcabgcdaa
