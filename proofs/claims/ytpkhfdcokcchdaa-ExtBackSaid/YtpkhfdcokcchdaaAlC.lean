/-
  alloc: with.
-/
import Derived.Test.YtpkhfdcokcchdaaAlB
import Derived.Deep.RegionHeld3
namespace Go.Proofs.Ytpkhfdcokcchdaa
open Go.RowKit

theorem own_form {w : World} {base : Nat} {e : TypeId} {size n : Nat} {v : Value} {xs : List Value} (h : w.ownsRow base e size v n xs) : ∃ ao cap, v = .slice ao n cap := by
  rcases h.2 with ⟨rfl, rfl⟩ | ⟨g, cap, cur, rfl, _⟩
  · exact ⟨none, 0, rfl⟩
  · exact ⟨_, _, rfl⟩
theorem aconcat_is (LL : List (Option Addr × Nat × List (Int × Int))) (RL : List (Int × Int)) (m bb cp : Nat) (w : World) (hR : catP LL = RL) (hm : m = RL.length) (h : CatIn LL bb w) (hL : LL.length ≤ 100) (hS : m ≤ 1000000) :
    Calls Try.prog 110 #[.slice (some ⟨bb, 0, none⟩) LL.length cp] w fun e w' => ∃ ao cap, e = .returned (.slice ao m cap) ∧ w'.ownsRow w.heap.size 35 2 (.slice ao m cap) m (cells2 RL) ∧ Gr [] w w' := by
  refine (aconcat_any LL bb cp w h hL (by rw [hR, ← hm]; exact hS)).mono ?_
  rintro e w' ⟨v, rfl, ho, g⟩
  rw [hR, ← hm] at ho
  obtain ⟨ao, cap, rfl⟩ := own_form ho
  exact ⟨ao, cap, rfl, ho, g⟩
/-- Three slices put together. -/
theorem catP3 (a b c : Option Addr × Nat × List (Int × Int)) : catP [a, b, c] = a.2.2 ++ b.2.2 ++ c.2.2 := by simp [catP]
set_option maxRecDepth 20000 in
set_option maxHeartbeats 2000000 in
theorem awith_some (N f t m : Nat) (l RL : List (Nat × Nat)) (b o cap : Nat) (a2 : Option Addr) (l2 : List (Nat × Nat)) (c2 : Nat) (w : World) (h : SetIs w N l (some ⟨b, o, none⟩) cap) (hf : f ≤ l.length) (ht : t ≤ l.length)
    (h2 : Rd2 w a2 (zl l2)) (hc2 : l2.length ≤ c2) (hn2 : a2 = none → c2 = 0) (hl2 : l2.length ≤ 100000) (hRL : RL = l.take f ++ l2 ++ l.drop t) (hm : m = RL.length) :
    Calls Try.prog 75 #[.agg #[.int .i64 N, .slice (some ⟨b, o, none⟩) l.length cap], .int .i64 f, .int .i64 t, .slice a2 l2.length c2] w fun e w' =>
      ∃ ao' cap', e = .returned (.agg #[.int .i64 N, .slice ao' m cap']) ∧ Sl2 w' (.slice ao' m cap') (zl RL) ∧ Gr [] w w' ∧ ∀ k o', ao' = some ⟨k, o', none⟩ → w.heap.size ≤ k := by
  have HRL := Lib.hid (And.intro hRL hm)
  clear hRL hm
  have HS := Lib.hid h
  have hlen := h.len
  have hhi := h.hi
  have hcap := h.cap1
  have hcap2 := h.cap2
  unfold maxLen at hcap2
  clear h
  obtain ⟨n, hn⟩ : ∃ n, n = l.length := ⟨_, rfl⟩
  rw [← hn] at hlen hf ht hcap ⊢
  have HN := Lib.hid hn
  clear hn
  obtain ⟨n2, hn2'⟩ : ∃ n2, n2 = l2.length := ⟨_, rfl⟩
  rw [← hn2'] at hc2 hl2 ⊢
  have HN2 := Lib.hid hn2'
  clear hn2'
  have H2 := Lib.hid (And.intro h2 (And.intro hc2 hn2))
  clear h2 hc2 hn2
  go_enter Try.func75, Try.ntmps75
  go_wp2_with fail
  have X1 := (Holds.new w #[.int .i64 N, .slice (some ⟨b, o, none⟩) n cap] 25).alloc (Obj.cells #[.int .i64 0, .slice none 0 0] 25)
  have k0 := X1.cell 0
  have k1 := X1.cell 1
  have HG := Lib.hid (((Gr.refl [] w).alloc (Obj.cells #[.int .i64 N, .slice (some ⟨b, o, none⟩) n cap] 25)).alloc (Obj.cells #[.int .i64 0, .slice none 0 0] 25))
  have X2 := Holds.new (w.alloc (Obj.cells #[.int .i64 N, .slice (some ⟨b, o, none⟩) n cap] 25)) #[.int .i64 0, .slice none 0 0] 25
  rw [World.size_alloc] at X2
  generalize (w.alloc (Obj.cells #[.int .i64 N, .slice (some ⟨b, o, none⟩) n cap] 25)).alloc (Obj.cells #[.int .i64 0, .slice none 0 0] 25) = wa at *
  have HB := Lib.hid (show ∀ w5 : World, Gr [] wa w5 → w5.cell? ⟨w.heap.size, 0, none⟩ = some (.int .i64 N) ∧ w5.cell? ⟨w.heap.size, 1, none⟩ = some (.slice (some ⟨b, o, none⟩) n cap) from fun w5 g => And.intro ((X1.gr0 g).cell 0) ((X1.gr0 g).cell 1))
  have HT := Lib.hid (show ∀ w5 : World, Gr [] wa w5 → w5.cell? ⟨w.heap.size + 1, 0, none⟩ = some (.int .i64 0) ∧ w5.cell? ⟨w.heap.size + 1, 1, none⟩ = some (.slice none 0 0) ∧ w5.frozen? ⟨w.heap.size + 1, 0, none⟩ = false ∧ w5.frozen? ⟨w.heap.size + 1, 1, none⟩ = false from fun w5 g => ⟨(X2.gr0 g).cell 0, (X2.gr0 g).cell 1, (X2.gr0 g).frozen 0, (X2.gr0 g).frozen 1⟩)
  have HLT := Lib.hid X2.lt
  have hfr : (f : Int) ≤ cap := by omega
  have htn : (t : Int) ≤ n := by omega
  have hnc : (n : Int) ≤ cap := by omega
  generalize hbx : w.heap.size = bx at *
  have HBX := Lib.hid hbx
  clear hbx
  clear X1 X2
  obtain ⟨A3, hA3⟩ : ∃ A3, A3 = (if cap = t then some (⟨b, o, none⟩ : Addr) else some ⟨b, o + t * 2, none⟩) := ⟨_, rfl⟩
  have hR3 : Rd2 w A3 (zl (l.drop t)) := by
    rw [zl_drop, hA3]
    by_cases e : cap = t
    · rw [if_pos e]
      have : (zl l).drop t = [] := List.drop_eq_nil_of_le (by rw [zl_len, ← HN.out]; omega)
      rw [this]; exact Rd2.nil _ _
    · rw [if_neg e]; exact HS.out.rd.drop t
  have hR1 : Rd2 w (some ⟨b, o, none⟩) (zl (l.take f)) := by rw [zl_take]; exact HS.out.rd.take f
  have e1 : (zl (l.take f)).length = f := by rw [zl_len, List.length_take, ← HN.out]; omega
  have e2 : (zl l2).length = n2 := by rw [zl_len, HN2.out]
  have e3 : (zl (l.drop t)).length = n - t := by rw [zl_len, List.length_drop, ← HN.out]
  have HCI := Lib.hid (show CatIn [(some ⟨b, o, none⟩, cap, zl (l.take f)), (a2, c2, zl l2), (A3, cap - t, zl (l.drop t))] wa.heap.size ((wa.alloc (Obj.cells #[.slice (some ⟨b, o, none⟩) f cap, .slice a2 n2 c2, .slice A3 (n - t) (cap - t)] 23)).drew) by
    have g := (HG.out.alloc (Obj.cells #[.slice (some ⟨b, o, none⟩) f cap, .slice a2 n2 c2, .slice A3 (n - t) (cap - t)] 23)).drew
    have X := Holds.new wa #[.slice (some ⟨b, o, none⟩) f cap, .slice a2 n2 c2, .slice A3 (n - t) (cap - t)] 23
    refine ⟨fun i x hx => ?_, X.lt, fun x hx => ?_, fun x hx => ?_⟩
    · match i, hx with
      | 0, hx => simp at hx; subst hx; rw [e1]; exact X.cell 0
      | 1, hx => simp at hx; subst hx; rw [e2]; exact X.cell 1
      | 2, hx => simp at hx; subst hx; rw [e3]; exact X.cell 2
      | i + 3, hx => simp at hx
    · simp at hx
      rcases hx with rfl | rfl | rfl
      · exact hR1.gr0 g
      · exact H2.out.1.gr0 g
      · exact hR3.gr0 g
    · simp at hx
      rcases hx with rfl | rfl | rfl
      · exact ⟨by show (zl (l.take f)).length ≤ cap; rw [e1]; omega, fun e => by cases e⟩
      · exact ⟨by show (zl l2).length ≤ c2; rw [e2]; exact H2.out.2.1, H2.out.2.2⟩
      · refine ⟨by show (zl (l.drop t)).length ≤ cap - t; rw [e3]; omega, fun e => ?_⟩
        have e' : A3 = none := e
        rw [hA3] at e'
        split at e' <;> cases e')
  have HG2 := Lib.hid ((Gr.refl [] wa).alloc (Obj.cells #[.slice (some ⟨b, o, none⟩) f cap, .slice a2 n2 c2, .slice A3 (n - t) (cap - t)] 23))
  have hcat : catP [(some ⟨b, o, none⟩, cap, zl (l.take f)), (a2, c2, zl l2), (A3, cap - t, zl (l.drop t))] = zl RL := by
    rw [catP3, HRL.out.1, zl_append, zl_append]
  have HCAT := Lib.hid hcat
  have hm1 : m ≤ 1000000 := by rw [HRL.out.2, HRL.out.1]; simp only [List.length_append, List.length_take, List.length_drop, ← HN.out, ← HN2.out]; omega
  have HM := Lib.hid (show m = (zl RL).length by rw [zl_len, HRL.out.2])
  clear hR1 hR3 e1 e2 e3 hcat
  have HS0 : wa.drew.cell? ⟨bx, 0, none⟩ = some (.int .i64 N) ∧ wa.drew.cell? ⟨bx, 1, none⟩ = some (.slice (some ⟨b, o, none⟩) n cap) := ⟨k0, k1⟩
  go_region_held3 (fun w' : World => w'.cell? ⟨bx, 0, none⟩ = some (.int .i64 N) ∧ w'.cell? ⟨bx, 1, none⟩ = some (.slice (some ⟨b, o, none⟩) n cap)) (first | assumption | go_keep) ((first
    | (go_at_call 110; rw [← hA3]; clear hA3; refine (aconcat_is _ _ m _ _ _ HCAT.out HM.out HCI.out (by simp) hm1).mono ?_; rintro e w5 ⟨ao', cap', rfl, ho, g⟩; have g5 := HG2.out.drew.trans g; have s5 := HB.out _ g5; obtain ⟨t0, t1, f0, f1⟩ := HT.out _ g5; have H5 := Lib.hid (And.intro ho g5); clear ho g g5)))
  go_wp2_with fail
  refine bodyPost_ret (v := .agg #[.int .i64 N, .slice ao' m cap']) (by simp [results, Try.results75, go_sem, *]) rfl ⟨ao', cap', rfl, ?_, ?_, ?_⟩
  · have h0 := own_sl2 H5.out.1
    obtain ⟨g1, g2⟩ := H5.out
    have hb := g1.lt
    refine h0.gr (bs := [bx + 1]) (((Gr.refl _ _).setCell (p := ⟨bx + 1, 0, none⟩) (.inl (by simp)) _).setCell (p := ⟨bx + 1, 1, none⟩) (.inl (by simp)) _) fun k hk e => ?_
    have := (hb k hk).1
    have hw := HLT.out
    simp at e this
    omega
  · exact ((HG.out.trans H5.out.2).setCell (p := ⟨bx + 1, 0, none⟩) (.inr (by rw [HBX.out]; simp)) _).setCell (p := ⟨bx + 1, 1, none⟩) (.inr (by rw [HBX.out]; simp)) _
  · intro k o' hk
    subst hk
    have h1 := (H5.out.1.lt k rfl).1
    have h2 := HG.out.size
    simp at h1
    omega

set_option maxRecDepth 20000 in
set_option maxHeartbeats 2000000 in
theorem awith_none (N m : Nat) (RL : List (Nat × Nat)) (a2 : Option Addr) (l2 : List (Nat × Nat)) (c2 : Nat) (w : World) 
    (h2 : Rd2 w a2 (zl l2)) (hc2 : l2.length ≤ c2) (hn2 : a2 = none → c2 = 0) (hl2 : l2.length ≤ 100000) (hRL : RL = l2) (hm : m = RL.length) :
    Calls Try.prog 75 #[.agg #[.int .i64 N, .slice none 0 0], .int .i64 0, .int .i64 0, .slice a2 l2.length c2] w fun e w' =>
      ∃ ao' cap', e = .returned (.agg #[.int .i64 N, .slice ao' m cap']) ∧ Sl2 w' (.slice ao' m cap') (zl RL) ∧ Gr [] w w' ∧ ∀ k o', ao' = some ⟨k, o', none⟩ → w.heap.size ≤ k := by
  have HRL := Lib.hid (And.intro hRL hm)
  clear hRL hm
  obtain ⟨n2, hn2'⟩ : ∃ n2, n2 = l2.length := ⟨_, rfl⟩
  rw [← hn2'] at hc2 hl2 ⊢
  have HN2 := Lib.hid hn2'
  clear hn2'
  have H2 := Lib.hid (And.intro h2 (And.intro hc2 hn2))
  clear h2 hc2 hn2
  go_enter Try.func75, Try.ntmps75
  go_wp2_with fail
  have X1 := (Holds.new w #[.int .i64 N, .slice none 0 0] 25).alloc (Obj.cells #[.int .i64 0, .slice none 0 0] 25)
  have k0 := X1.cell 0
  have k1 := X1.cell 1
  have HG := Lib.hid (((Gr.refl [] w).alloc (Obj.cells #[.int .i64 N, .slice none 0 0] 25)).alloc (Obj.cells #[.int .i64 0, .slice none 0 0] 25))
  have X2 := Holds.new (w.alloc (Obj.cells #[.int .i64 N, .slice none 0 0] 25)) #[.int .i64 0, .slice none 0 0] 25
  rw [World.size_alloc] at X2
  generalize (w.alloc (Obj.cells #[.int .i64 N, .slice none 0 0] 25)).alloc (Obj.cells #[.int .i64 0, .slice none 0 0] 25) = wa at *
  have HB := Lib.hid (show ∀ w5 : World, Gr [] wa w5 → w5.cell? ⟨w.heap.size, 0, none⟩ = some (.int .i64 N) ∧ w5.cell? ⟨w.heap.size, 1, none⟩ = some (.slice none 0 0) from fun w5 g => And.intro ((X1.gr0 g).cell 0) ((X1.gr0 g).cell 1))
  have HT := Lib.hid (show ∀ w5 : World, Gr [] wa w5 → w5.cell? ⟨w.heap.size + 1, 0, none⟩ = some (.int .i64 0) ∧ w5.cell? ⟨w.heap.size + 1, 1, none⟩ = some (.slice none 0 0) ∧ w5.frozen? ⟨w.heap.size + 1, 0, none⟩ = false ∧ w5.frozen? ⟨w.heap.size + 1, 1, none⟩ = false from fun w5 g => ⟨(X2.gr0 g).cell 0, (X2.gr0 g).cell 1, (X2.gr0 g).frozen 0, (X2.gr0 g).frozen 1⟩)
  have HLT := Lib.hid X2.lt
  generalize hbx : w.heap.size = bx at *
  have HBX := Lib.hid hbx
  clear hbx
  clear X1 X2
  have e2 : (zl l2).length = n2 := by rw [zl_len, HN2.out]
  have HCI := Lib.hid (show CatIn [((none : Option Addr), 0, []), (a2, c2, zl l2), (none, 0, [])] wa.heap.size ((wa.alloc (Obj.cells #[.slice none 0 0, .slice a2 n2 c2, .slice none 0 0] 23)).drew) by
    have g := (HG.out.alloc (Obj.cells #[.slice none 0 0, .slice a2 n2 c2, .slice none 0 0] 23)).drew
    have X := Holds.new wa #[.slice none 0 0, .slice a2 n2 c2, .slice none 0 0] 23
    refine ⟨fun i x hx => ?_, X.lt, fun x hx => ?_, fun x hx => ?_⟩
    · match i, hx with
      | 0, hx => simp at hx; subst hx; exact X.cell 0
      | 1, hx => simp at hx; subst hx; rw [e2]; exact X.cell 1
      | 2, hx => simp at hx; subst hx; exact X.cell 2
      | i + 3, hx => simp at hx
    · simp at hx
      rcases hx with rfl | rfl | rfl
      · exact Rd2.nil _ _
      · exact H2.out.1.gr0 g
      · exact Rd2.nil _ _
    · simp at hx
      rcases hx with rfl | rfl | rfl
      · exact ⟨Nat.le_refl _, fun _ => rfl⟩
      · exact ⟨by show (zl l2).length ≤ c2; rw [e2]; exact H2.out.2.1, H2.out.2.2⟩
      · exact ⟨Nat.le_refl _, fun _ => rfl⟩)
  have HG2 := Lib.hid ((Gr.refl [] wa).alloc (Obj.cells #[.slice none 0 0, .slice a2 n2 c2, .slice none 0 0] 23))
  have hcat : catP [((none : Option Addr), 0, []), (a2, c2, zl l2), (none, 0, [])] = zl RL := by
    rw [catP3, HRL.out.1]; simp
  have HCAT := Lib.hid hcat
  have hm1 : m ≤ 1000000 := by rw [HRL.out.2, HRL.out.1]; rw [← HN2.out]; omega
  have HM := Lib.hid (show m = (zl RL).length by rw [zl_len, HRL.out.2])
  clear e2 hcat
  have HS0 : wa.drew.cell? ⟨bx, 0, none⟩ = some (.int .i64 N) ∧ wa.drew.cell? ⟨bx, 1, none⟩ = some (.slice none 0 0) := ⟨k0, k1⟩
  go_region_held3 (fun w' : World => w'.cell? ⟨bx, 0, none⟩ = some (.int .i64 N) ∧ w'.cell? ⟨bx, 1, none⟩ = some (.slice none 0 0)) (first | assumption | go_keep) ((first
    | (go_at_call 110; refine (aconcat_is _ _ m _ _ _ HCAT.out HM.out HCI.out (by simp) hm1).mono ?_; rintro e w5 ⟨ao', cap', rfl, ho, g⟩; have g5 := HG2.out.drew.trans g; have s5 := HB.out _ g5; obtain ⟨t0, t1, f0, f1⟩ := HT.out _ g5; have H5 := Lib.hid (And.intro ho g5); clear ho g g5)))
  go_wp2_with fail
  refine bodyPost_ret (v := .agg #[.int .i64 N, .slice ao' m cap']) (by simp [results, Try.results75, go_sem, *]) rfl ⟨ao', cap', rfl, ?_, ?_, ?_⟩
  · have h0 := own_sl2 H5.out.1
    obtain ⟨g1, g2⟩ := H5.out
    have hb := g1.lt
    refine h0.gr (bs := [bx + 1]) (((Gr.refl _ _).setCell (p := ⟨bx + 1, 0, none⟩) (.inl (by simp)) _).setCell (p := ⟨bx + 1, 1, none⟩) (.inl (by simp)) _) fun k hk e => ?_
    have := (hb k hk).1
    have hw := HLT.out
    simp at e this
    omega
  · exact ((HG.out.trans H5.out.2).setCell (p := ⟨bx + 1, 0, none⟩) (.inr (by rw [HBX.out]; simp)) _).setCell (p := ⟨bx + 1, 1, none⟩) (.inr (by rw [HBX.out]; simp)) _
  · intro k o' hk
    subst hk
    have h1 := (H5.out.1.lt k rfl).1
    have h2 := HG.out.size
    simp at h1
    omega

end Go.Proofs.Ytpkhfdcokcchdaa
