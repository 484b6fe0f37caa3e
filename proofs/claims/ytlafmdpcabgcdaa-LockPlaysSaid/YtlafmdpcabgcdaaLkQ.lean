/-
  Layer 24: the document's Drop, Step.
-/
import Derived.Test.YtlafmdpcabgcdaaLkO
import Derived.Deep.RegionHeld3
import Derived.Deep.RegionLaw
namespace Go.Proofs.Ytlafmdpcabgcdaa
open Go.RowKit

theorem own_drew {w : World} {base n size : Nat} {e : TypeId} {v : Value} {xs : List Value} (h : w.ownsRow base e size v n xs) : w.drew.ownsRow base e size v n xs := h
theorem RlS.putH {w1 : World} {r : RlA} {C : Int} {hs' ws : List (Int × Int)} {v : Value} (hH : Holds w1 r.b #[.int .i64 C, r.vH, r.vW] 30) (hv : w1.ownsRow (r.b + 1) 63 2 v hs'.length (pv hs'))
    (hW : w1.ownsRow (r.b + 1) 63 2 r.vW ws.length (pv ws)) (hne : ∀ k, v.ownBlock = some k → r.vW.ownBlock ≠ some k) : RlS (w1.setCell ⟨r.b, 1, none⟩ v) ⟨r.b, v, r.vW⟩ C hs' ws := by
  have g : Gr [r.b] w1 (w1.setCell ⟨r.b, 1, none⟩ v) := (Gr.refl [r.b] w1).setCell (p := ⟨r.b, 1, none⟩) (.inl (by simp)) v
  refine ⟨by have := hH.set 1 v; simpa using this, own_gr hv g (fun k hk e => ?_), own_gr hW g (fun k hk e => ?_), hne⟩
  · have := (hv.lt k hk).1; simp at e; omega
  · have := (hW.lt k hk).1; simp at e; omega
theorem RlS.putW {w1 : World} {r : RlA} {C : Int} {hs ws' : List (Int × Int)} {v : Value} (hH : Holds w1 r.b #[.int .i64 C, r.vH, r.vW] 30) (hv : w1.ownsRow (r.b + 1) 63 2 v ws'.length (pv ws'))
    (hW : w1.ownsRow (r.b + 1) 63 2 r.vH hs.length (pv hs)) (hne : ∀ k, r.vH.ownBlock = some k → v.ownBlock ≠ some k) : RlS (w1.setCell ⟨r.b, 2, none⟩ v) ⟨r.b, r.vH, v⟩ C hs ws' := by
  have g : Gr [r.b] w1 (w1.setCell ⟨r.b, 2, none⟩ v) := (Gr.refl [r.b] w1).setCell (p := ⟨r.b, 2, none⟩) (.inl (by simp)) v
  refine ⟨by have := hH.set 2 v; simpa using this, own_gr hW g (fun k hk e => ?_), own_gr hv g (fun k hk e => ?_), hne⟩
  · have := (hW.lt k hk).1; simp at e; omega
  · have := (hv.lt k hk).1; simp at e; omega
/-- No block of others is among the new state's. -/
def NwR (w : World) (r r' : RlA) : Prop := (∀ b ∈ r'.all, b ∈ r.all ∨ w.heap.size ≤ b) ∧ r'.b = r.b
theorem NwR.refl (w : World) (r : RlA) : NwR w r r := ⟨fun _ h => .inl h, rfl⟩
theorem NwR.trans {w w1 : World} {r r1 r2 : RlA} (h : NwR w r r1) (k : NwR w1 r1 r2) (hs : w.heap.size ≤ w1.heap.size) : NwR w r r2 := ⟨fun b hb => by
  rcases k.1 b hb with q | q
  · exact h.1 b q
  · exact .inr (by omega), k.2.trans h.2⟩
/-- A new list for who has. -/
theorem RlS.newH {w w1 : World} {r : RlA} {C : Int} {hs ws hs' : List (Int × Int)} {v : Value} (h : RlS w r C hs ws) (g : Gr [] w w1) (hv : w1.ownsRow w.heap.size 63 2 v hs'.length (pv hs')) :
    RlS (w1.setCell ⟨r.b, 1, none⟩ v) ⟨r.b, v, r.vW⟩ C hs' ws ∧ Gr r.all w (w1.setCell ⟨r.b, 1, none⟩ v) ∧ NwR w r ⟨r.b, v, r.vW⟩ := by
  refine ⟨RlS.putH (h.head.gr0 g) (own_base hv h.head.lt) (own_gr0 h.wants g) (fun k hk e => ?_), g.of0.setCell (p := ⟨r.b, 1, none⟩) (.inl (by simp [RlA.all])) v, fun b hb => ?_, rfl⟩
  · have := (hv.lt k hk).1; have := (h.wants.lt k e).2; omega
  · simp only [RlA.all, List.mem_cons, List.mem_append, Option.mem_toList] at hb ⊢
    rcases hb with q | q | q
    · exact .inl (.inl q)
    · exact .inr (hv.lt b q).1
    · exact .inl (.inr (.inr q))
theorem RlS.newW {w w1 : World} {r : RlA} {C : Int} {hs ws ws' : List (Int × Int)} {v : Value} (h : RlS w r C hs ws) (g : Gr [] w w1) (hv : w1.ownsRow w.heap.size 63 2 v ws'.length (pv ws')) :
    RlS (w1.setCell ⟨r.b, 2, none⟩ v) ⟨r.b, r.vH, v⟩ C hs ws' ∧ Gr r.all w (w1.setCell ⟨r.b, 2, none⟩ v) ∧ NwR w r ⟨r.b, r.vH, v⟩ := by
  refine ⟨RlS.putW (h.head.gr0 g) (own_base hv h.head.lt) (own_gr0 h.has g) (fun k hk e => ?_), g.of0.setCell (p := ⟨r.b, 2, none⟩) (.inl (by simp [RlA.all])) v, fun b hb => ?_, rfl⟩
  · have := (hv.lt k e).1; have := (h.has.lt k hk).2; omega
  · simp only [RlA.all, List.mem_cons, List.mem_append, Option.mem_toList] at hb ⊢
    rcases hb with q | q | q
    · exact .inl (.inl q)
    · exact .inl (.inr (.inl q))
    · exact .inr (hv.lt b q).1
/-- One more pair behind who has. -/
theorem RlS.snoc {w1 w6 : World} {r : RlA} {C : Int} {hs ws : List (Int × Int)} {g6 n cp : Nat} {o : Obj} {c x : Int} (h : RlS w1 r C hs ws)
    (hown : w6.ownsRow (r.b + 1) 63 2 (.slice (some ⟨g6, 0, none⟩) n cp) n (pv hs ++ [.int .i64 c, .int .i64 x])) (hg : (w1.alloc o).drew.grownBy w6 r.vH.ownBlock) (hat : r.vH.ownBlock = some g6 ∨ g6 = (w1.alloc o).drew.heap.size) :
    RlS (w6.setCell ⟨r.b, 1, none⟩ (.slice (some ⟨g6, 0, none⟩) n cp)) ⟨r.b, .slice (some ⟨g6, 0, none⟩) n cp, r.vW⟩ C (hs ++ [(c, x)]) ws ∧ Gr r.all w1 (w6.setCell ⟨r.b, 1, none⟩ (.slice (some ⟨g6, 0, none⟩) n cp)) ∧ NwR w1 r ⟨r.b, .slice (some ⟨g6, 0, none⟩) n cp, r.vW⟩ := by
  have gG : Gr [] w1 (w1.alloc o).drew := ((Gr.refl [] w1).alloc o).drew
  have hz : (w1.alloc o).drew.heap.size = w1.heap.size + 1 := World.size_alloc _ _
  have gg := gr_grownL hg
  have hn : n = (hs ++ [(c, x)]).length := by
    have := hown.1; simp [pv_len] at this; simp; omega
  have e : pv hs ++ [.int .i64 c, .int .i64 x] = pv (hs ++ [(c, x)]) := (pv_snoc hs (c, x)).symm
  rw [e] at hown
  have hrb : r.b ∉ r.vH.ownBlock.toList := fun q => by
    have := (h.has.lt r.b (by simpa using q)).1; omega
  have hH6 := (h.head.gr0 gG).gr gg hrb
  have hW6 := own_gr (own_gr0 h.wants gG) gg (fun b hb q => h.ne b (by simpa using q) hb)
  refine ⟨RlS.putH hH6 (by rw [← hn]; exact hown) hW6 (fun k hk q => ?_), ?_, fun b hb => ?_, rfl⟩
  · injection hk with hk
    simp only at hk
    subst hk
    rcases hat with p | p
    · exact h.ne _ p q
    · have := (h.wants.lt _ q).2; omega
  · refine Gr.setCell ?_ (.inl (by simp [RlA.all])) _
    exact (gG.of0).trans (gg.mono fun b hb => by simp [RlA.all]; exact .inr (.inl (by simpa using hb)))
  · simp only [RlA.all, List.mem_cons, List.mem_append, Option.mem_toList] at hb ⊢
    rcases hb with q | q | q
    · exact .inl (.inl q)
    · injection q with q
      simp only at q
      subst q
      rcases hat with p | p
      · exact .inl (.inr (.inl p))
      · exact .inr (by omega)
    · exact .inl (.inr (.inr q))
section
variable {w : World} {r : RlA} {C : Int} {hs ws : List (Int × Int)}
theorem rdrop_out (c : Int) (h : RlS w r C hs ws) (hc : c < 0 ∨ C ≤ c) :
    Calls Try.prog 11 #[.pointer (some ⟨r.b, 0, none⟩), .int .i64 c] w fun e w' => e = .returned (.int .i64 2) ∧ w' = w := by
  have HB := rbad_at c h
  rw [decide_eq_true hc] at HB
  have HB := Lib.hid HB
  clear h hc
  go_enter Try.func11, Try.ntmps11
  go_wp2_with (go_at_call 23; refine HB.out.mono ?_; rintro e w' ⟨rfl, hw⟩; rw [hw])
  go_ret
  exact ⟨rfl, rfl⟩
set_option maxRecDepth 100000 in
set_option maxHeartbeats 4000000 in
theorem rdrop_at (c : Int) (h : RlS w r C hs ws) (hc : 0 ≤ c ∧ c < C) (hl : hs.length ≤ 1000) (hl2 : ws.length ≤ 1000) :
    Calls Try.prog 11 #[.pointer (some ⟨r.b, 0, none⟩), .int .i64 c] w fun e w' => ∃ r', e = .returned (.int .i64 0) ∧ RlS w' r' C (withoutP hs c 0 true) (withoutP ws c 0 true) ∧ Gr r.all w w' ∧ NwR w r r' := by
  have HB := rbad_at c h
  rw [decide_eq_false (by omega)] at HB
  have HB := Lib.hid HB
  have H := Lib.hid h
  obtain ⟨aoH, capH, aoW, capW, e1, e2, hi⟩ := h.to
  have c1 := hi.head.cell 1
  have c1f := hi.head.frozen 1
  have HWo := Lib.hid (without_at aoH hs capH c 0 true w hi.has hl hi.lh.1)
  obtain ⟨N, hN⟩ : ∃ N, N = hs.length := ⟨_, rfl⟩
  rw [← hN] at c1 HWo
  clear h hi hN hc hl e1 e2
  go_enter Try.func11, Try.ntmps11
  go_wp2_with (go_at_call 23; refine HB.out.mono ?_; rintro e w' ⟨rfl, hw⟩; rw [hw])
  go_at_call 27
  refine HWo.out.mono ?_
  rintro e w1 ⟨v, rfl, hv, g1⟩
  have HN := Lib.hid (H.out.newH g1 hv)
  have d1 : (w1.cell? ⟨r.b, 1, none⟩).isSome = true := by rw [(H.out.head.gr0 g1).cell 1]; rfl
  obtain ⟨u1, d1⟩ := Option.isSome_iff_exists.1 d1
  have d1f : w1.frozen? ⟨r.b, 1, none⟩ = false := (H.out.head.gr0 g1).frozen 1
  obtain ⟨ao1, cap1, rfl, -, -, -, -⟩ := own_rdp hv
  obtain ⟨aoH2, capH2, aoW2, capW2, -, e4, hi2⟩ := HN.out.1.to
  have HW2 := Lib.hid (without_at aoW2 ws capW2 c 0 true _ hi2.wants hl2 hi2.lw.1)
  have c2 := HN.out.1.head.cell 2
  have c2f := HN.out.1.head.frozen 2
  simp only at e4
  rw [e4] at c2
  obtain ⟨M, hM⟩ : ∃ M, M = ws.length := ⟨_, rfl⟩
  rw [← hM] at c2 HW2
  clear hv g1 c1 c1f hi2 e4 hM
  go_wp2_with (go_at_call 27; refine HW2.out.mono ?_; rintro e w2 ⟨v2, rfl, hv2, g2⟩; have HN2 := Lib.hid (HN.out.1.newW g2 hv2); have d2 := (HN.out.1.head.gr0 g2).cell 2; have d2f := (HN.out.1.head.gr0 g2).frozen 2; obtain ⟨ao3, cap3, rfl, -, -, -, -⟩ := own_rdp hv2; clear hv2 g2 c2 c2f)
  go_ret
  exact ⟨_, rfl, HN2.out.1, HN.out.2.1.nextN HN2.out.2.1 (fun x hx => (HN.out.2.2.1 x hx)), HN.out.2.2.trans HN2.out.2.2 HN.out.2.1.size⟩
end
end Go.Proofs.Ytlafmdpcabgcdaa
