/-
  alloc: Give.
-/
import Derived.Test.YtpkhfdcokcchdaaAlK
namespace Go.Proofs.Ytpkhfdcokcchdaa
open Go.RowKit

set_option maxRecDepth 20000 in
set_option maxHeartbeats 2000000 in
theorem awith_empty (a : Addr) (cap : Nat) (N m : Nat) (RL : List (Nat × Nat)) (a2 : Option Addr) (l2 : List (Nat × Nat)) (c2 : Nat) (w : World) 
    (h2 : Rd2 w a2 (zl l2)) (hc2 : l2.length ≤ c2) (hn2 : a2 = none → c2 = 0) (hl2 : l2.length ≤ 100000) (hRL : RL = l2) (hm : m = RL.length) :
    Calls Try.prog 75 #[.agg #[.int .i64 N, .slice (some a) 0 cap], .int .i64 0, .int .i64 0, .slice a2 l2.length c2] w fun e w' =>
      ∃ ao' cap', e = .returned (.agg #[.int .i64 N, .slice ao' m cap']) ∧ Sl2 w' (.slice ao' m cap') (zl RL) ∧ Gr [] w w' ∧ ∀ k o', ao' = some ⟨k, o', none⟩ → w.heap.size ≤ k := by
  have HRL := Lib.hid (And.intro hRL hm)
  clear hRL hm
  obtain ⟨n2, hn2'⟩ : ∃ n2, n2 = l2.length := ⟨_, rfl⟩
  rw [← hn2'] at hc2 hl2 ⊢
  have HN2 := Lib.hid hn2'
  clear hn2'
  have H2 := Lib.hid (And.intro h2 (And.intro hc2 hn2))
  clear h2 hc2 hn2
  go_enter Try.func75, Try.ntmps75
  go_wp2_with fail
  have X1 := (Holds.new w #[.int .i64 N, .slice (some a) 0 cap] 25).alloc (Obj.cells #[.int .i64 0, .slice none 0 0] 25)
  have k0 := X1.cell 0
  have k1 := X1.cell 1
  have HG := Lib.hid (((Gr.refl [] w).alloc (Obj.cells #[.int .i64 N, .slice (some a) 0 cap] 25)).alloc (Obj.cells #[.int .i64 0, .slice none 0 0] 25))
  have X2 := Holds.new (w.alloc (Obj.cells #[.int .i64 N, .slice (some a) 0 cap] 25)) #[.int .i64 0, .slice none 0 0] 25
  rw [World.size_alloc] at X2
  generalize (w.alloc (Obj.cells #[.int .i64 N, .slice (some a) 0 cap] 25)).alloc (Obj.cells #[.int .i64 0, .slice none 0 0] 25) = wa at *
  have HB := Lib.hid (show ∀ w5 : World, Gr [] wa w5 → w5.cell? ⟨w.heap.size, 0, none⟩ = some (.int .i64 N) ∧ w5.cell? ⟨w.heap.size, 1, none⟩ = some (.slice (some a) 0 cap) from fun w5 g => And.intro ((X1.gr0 g).cell 0) ((X1.gr0 g).cell 1))
  have HT := Lib.hid (show ∀ w5 : World, Gr [] wa w5 → w5.cell? ⟨w.heap.size + 1, 0, none⟩ = some (.int .i64 0) ∧ w5.cell? ⟨w.heap.size + 1, 1, none⟩ = some (.slice none 0 0) ∧ w5.frozen? ⟨w.heap.size + 1, 0, none⟩ = false ∧ w5.frozen? ⟨w.heap.size + 1, 1, none⟩ = false from fun w5 g => ⟨(X2.gr0 g).cell 0, (X2.gr0 g).cell 1, (X2.gr0 g).frozen 0, (X2.gr0 g).frozen 1⟩)
  have HLT := Lib.hid X2.lt
  generalize hbx : w.heap.size = bx at *
  have HBX := Lib.hid hbx
  clear hbx
  clear X1 X2
  have e2 : (zl l2).length = n2 := by rw [zl_len, HN2.out]
  have HCI := Lib.hid (show CatIn [((some a : Option Addr), cap, []), (a2, c2, zl l2), (some a, cap, [])] wa.heap.size ((wa.alloc (Obj.cells #[.slice (some a) 0 cap, .slice a2 n2 c2, .slice (some a) 0 cap] 23)).drew) by
    have g := (HG.out.alloc (Obj.cells #[.slice (some a) 0 cap, .slice a2 n2 c2, .slice (some a) 0 cap] 23)).drew
    have X := Holds.new wa #[.slice (some a) 0 cap, .slice a2 n2 c2, .slice (some a) 0 cap] 23
    refine ⟨fun i x hx => ?_, X.lt, fun x hx => ?_, fun x hx => ?_⟩
    · match i, hx with
      | 0, hx => simp at hx; subst hx; exact X.cell 0
      | 1, hx => simp at hx; subst hx; rw [e2]; exact X.cell 1
      | 2, hx => simp at hx; subst hx; exact X.cell 2
      | i + 3, hx => simp at hx
    · simp at hx
      rcases hx with rfl | rfl | rfl
      · exact Rd2.nil _ _
      · exact H2.out.1.gr0 g
      · exact Rd2.nil _ _
    · simp at hx
      rcases hx with rfl | rfl | rfl
      · exact ⟨Nat.zero_le _, fun e => by cases e⟩
      · exact ⟨by show (zl l2).length ≤ c2; rw [e2]; exact H2.out.2.1, H2.out.2.2⟩
      · exact ⟨Nat.zero_le _, fun e => by cases e⟩)
  have HG2 := Lib.hid ((Gr.refl [] wa).alloc (Obj.cells #[.slice (some a) 0 cap, .slice a2 n2 c2, .slice (some a) 0 cap] 23))
  have hcat : catP [((some a : Option Addr), cap, []), (a2, c2, zl l2), (some a, cap, [])] = zl RL := by
    rw [catP3, HRL.out.1]; simp
  have HCAT := Lib.hid hcat
  have hm1 : m ≤ 1000000 := by rw [HRL.out.2, HRL.out.1]; rw [← HN2.out]; omega
  have HM := Lib.hid (show m = (zl RL).length by rw [zl_len, HRL.out.2])
  clear e2 hcat
  have HS0 : wa.drew.cell? ⟨bx, 0, none⟩ = some (.int .i64 N) ∧ wa.drew.cell? ⟨bx, 1, none⟩ = some (.slice (some a) 0 cap) := ⟨k0, k1⟩
  go_region_held3 (fun w' : World => w'.cell? ⟨bx, 0, none⟩ = some (.int .i64 N) ∧ w'.cell? ⟨bx, 1, none⟩ = some (.slice (some a) 0 cap)) (first | assumption | go_keep) ((first
    | (go_at_call 110; refine (aconcat_is _ _ m _ _ _ HCAT.out HM.out HCI.out (by simp) hm1).mono ?_; rintro e w5 ⟨ao', cap', rfl, ho, g⟩; have g5 := HG2.out.drew.trans g; have s5 := HB.out _ g5; obtain ⟨t0, t1, f0, f1⟩ := HT.out _ g5; have H5 := Lib.hid (And.intro ho g5); clear ho g g5)))
  go_wp2_with fail
  refine bodyPost_ret (v := .agg #[.int .i64 N, .slice ao' m cap']) (by simp [results, Try.results75, go_sem, *]) rfl ⟨ao', cap', rfl, ?_, ?_, ?_⟩
  · have h0 := own_sl2 H5.out.1
    obtain ⟨g1, g2⟩ := H5.out
    have hb := g1.lt
    refine h0.gr (bs := [bx + 1]) (((Gr.refl _ _).setCell (p := ⟨bx + 1, 0, none⟩) (.inl (by simp)) _).setCell (p := ⟨bx + 1, 1, none⟩) (.inl (by simp)) _) fun k hk e => ?_
    have := (hb k hk).1
    have hw := HLT.out
    simp at e this
    omega
  · exact ((HG.out.trans H5.out.2).setCell (p := ⟨bx + 1, 0, none⟩) (.inr (by rw [HBX.out]; simp)) _).setCell (p := ⟨bx + 1, 1, none⟩) (.inr (by rw [HBX.out]; simp)) _
  · intro k o' hk
    subst hk
    have h1 := (H5.out.1.lt k rfl).1
    have h2 := HG.out.size
    simp at h1
    omega

theorem mergeA_no {l : List (Nat × Nat)} {a i : Nat} (hi : i ≤ l.length) (h : i = 0 ∨ ∃ p, l[i - 1]? = some p ∧ p.1 + p.2 ≠ a) : mergeA (l.take i) a = (l.take i, a) := by
  unfold mergeA
  rcases h with rfl | ⟨p, hp, hne⟩
  · simp
  · have h0 : i = 0 ∨ 0 < i := by omega
    rcases h0 with h0 | h0
    · subst h0; simp
    · have hg : (l.take i).getLast? = some p := by
        rw [List.getLast?_eq_getElem?, List.length_take, Nat.min_eq_left hi, List.getElem?_take_of_lt (by omega)]
        exact hp
      rw [hg]
      simp only
      rw [if_neg hne]
theorem mergeA_yes {l : List (Nat × Nat)} {a i : Nat} {p : Nat × Nat} (hi : i ≤ l.length) (h0 : 0 < i) (hp : l[i - 1]? = some p) (he : p.1 + p.2 = a) : mergeA (l.take i) a = (l.take (i - 1), p.1) := by
  unfold mergeA
  have hg : (l.take i).getLast? = some p := by
    rw [List.getLast?_eq_getElem?, List.length_take, Nat.min_eq_left hi, List.getElem?_take_of_lt (by omega)]
    exact hp
  rw [hg]
  simp only
  rw [if_pos he, List.dropLast_eq_take, List.length_take, Nat.min_eq_left hi, List.take_take, Nat.min_eq_left (by omega)]
theorem drop_at {l : List (Nat × Nat)} {i : Nat} {q : Nat × Nat} (h : l[i]? = some q) : l.drop i = q :: l.drop (i + 1) := by
  obtain ⟨h1, h2⟩ := List.getElem?_eq_some_iff.1 h
  rw [List.drop_eq_getElem_cons h1, h2]
theorem mergeB_end {l : List (Nat × Nat)} {i z : Nat} (h : l.length ≤ i) : mergeB (l.drop i) z = (l.drop i, z) := by
  rw [List.drop_eq_nil_of_le h]; rfl
theorem mergeB_no {l : List (Nat × Nat)} {i z : Nat} {q : Nat × Nat} (h : l[i]? = some q) (hne : q.1 ≠ z) : mergeB (l.drop i) z = (l.drop i, z) := by
  rw [drop_at h]; unfold mergeB; simp only; rw [if_neg hne]
theorem mergeB_yes {l : List (Nat × Nat)} {i z : Nat} {q : Nat × Nat} (h : l[i]? = some q) (he : q.1 = z) : mergeB (l.drop i) z = (l.drop (i + 1), z + q.2) := by
  rw [drop_at h]; unfold mergeB; simp only; rw [if_pos he]
theorem give_eq {l l' : List (Nat × Nat)} {a n i : Nat} (hi : i = fromI l (a : Int)) (hu : giveL l a n = some l') :
    (∀ e, l[i]? = some e → a + n ≤ e.1) ∧ ∀ f t x L, mergeA (l.take i) a = (l.take f, x) → mergeB (l.drop i) (a + n) = (l.drop t, x + L) → l' = l.take f ++ [(x, L)] ++ l.drop t := by
  unfold giveL at hu
  simp only at hu
  rw [← hi] at hu
  cases q : l[i]? with
  | none =>
    rw [q] at hu
    simp only at hu
    injection hu with hu
    refine And.intro (fun e he => by simp at he) (fun f t x L hA hB => ?_)
    have hl : l.length ≤ i := List.getElem?_eq_none_iff.1 q
    rw [mergeB_end hl] at hB
    have e1 := congrArg Prod.fst hB
    have e2 := congrArg Prod.snd hB
    simp only at e1 e2
    rw [← hu, hA, ← e1, List.drop_eq_nil_of_le hl]
    simp only [List.append_nil]
    congr 3
    omega
  | some e =>
    rw [q] at hu
    simp only at hu
    by_cases c : e.1 < a + n
    · rw [if_pos c] at hu; cases hu
    · rw [if_neg c] at hu
      injection hu with hu
      refine And.intro (fun e' he => by simp at he; subst he; omega) (fun f t x L hA hB => ?_)
      rw [← hu, hA, hB]
      simp

end Go.Proofs.Ytpkhfdcokcchdaa
