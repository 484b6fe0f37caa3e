/-
  Layer 16: the law's of: the program's inode of the plain one.
-/
import Derived.Test.YtpkhfdcokcchdabInM
namespace Go.Proofs.Ytpkhfdcokcchdab
open Go.RowKit

theorem take_snoc2 {α : Type} {l : List α} {k : Nat} {e : α} (h : l[k]? = some e) : l.take (k + 1) = l.take k ++ [e] := by
  obtain ⟨a, b⟩ := List.getElem?_eq_some_iff.1 h
  rw [List.take_succ_eq_append_getElem a, b]
theorem gr_mem {b : Nat} {w : World} {p : Addr} (h : p.block = b) (v : Value) : Gr [b] w (w.setCell p v) := (Gr.refl [b] w).setCell (.inl (by simp [h])) v
set_option maxHeartbeats 8000000 in
set_option maxRecDepth 100000 in
theorem eof_any (k : Nat) (l s : Int) (bl : List (Int × Int)) (t : ByteArray) (N : Nat) (aV : Option Addr) (cV : Nat) (w : World) (hv : Sl2 w (.slice aV N cV) bl) (hL : N ≤ 100) :
    Calls Try.prog 13 #[.agg #[.int .u8 k, .int .i64 l, .int .i64 s, .slice aV N cV, .string t]] w fun e w' => ∃ ao cap, e = .returned (.agg #[.int .u8 k, .int .i64 l, .int .i64 s, .slice ao N cap, .string t]) ∧ Sl2 w' (.slice ao N cap) bl ∧ Gr [] w w' := by
  obtain ⟨i0, hi0, hz0, hz1, hz2⟩ := info_parts infoExt2
  have hN := (sl2_parts hv).1
  have HN := Lib.hid hN
  have g3 := ((((Gr.refl [] w).alloc (Obj.cells #[.int .u8 k, .int .i64 l, .int .i64 s, .slice aV N cV, .string t] 24)).alloc (Obj.cells #[.int .u8 0, .int .i64 0, .int .i64 0, .slice none 0 0, .string ⟨#[]⟩] 31)).alloc (Obj.cells #[.int .u8 k, .int .i64 l, .int .i64 s, .slice none 0 0, .string t] 31))
  have HG := Lib.hid g3
  have HV := Lib.hid hv
  have h1 := ((Holds.new w #[.int .u8 k, .int .i64 l, .int .i64 s, .slice aV N cV, .string t] 24).alloc (Obj.cells #[.int .u8 0, .int .i64 0, .int .i64 0, .slice none 0 0, .string ⟨#[]⟩] 31)).alloc (Obj.cells #[.int .u8 k, .int .i64 l, .int .i64 s, .slice none 0 0, .string t] 31)
  have h2 := (Holds.new (w.alloc (Obj.cells #[.int .u8 k, .int .i64 l, .int .i64 s, .slice aV N cV, .string t] 24)) #[.int .u8 0, .int .i64 0, .int .i64 0, .slice none 0 0, .string ⟨#[]⟩] 31).alloc (Obj.cells #[.int .u8 k, .int .i64 l, .int .i64 s, .slice none 0 0, .string t] 31)
  have h3 := Holds.new ((w.alloc (Obj.cells #[.int .u8 k, .int .i64 l, .int .i64 s, .slice aV N cV, .string t] 24)).alloc (Obj.cells #[.int .u8 0, .int .i64 0, .int .i64 0, .slice none 0 0, .string ⟨#[]⟩] 31)) #[.int .u8 k, .int .i64 l, .int .i64 s, .slice none 0 0, .string t] 31
  rw [World.size_alloc] at h2
  rw [World.size_alloc, World.size_alloc] at h3
  have hsz : (((w.alloc (Obj.cells #[.int .u8 k, .int .i64 l, .int .i64 s, .slice aV N cV, .string t] 24)).alloc (Obj.cells #[.int .u8 0, .int .i64 0, .int .i64 0, .slice none 0 0, .string ⟨#[]⟩] 31)).alloc (Obj.cells #[.int .u8 k, .int .i64 l, .int .i64 s, .slice none 0 0, .string t] 31)).heap.size = w.heap.size + 1 + 1 + 1 := by
    rw [World.size_alloc, World.size_alloc, World.size_alloc]
  have HH := Lib.hid (And.intro h1 (And.intro h2 (And.intro h3 hsz)))
  clear h1 h2 h3 hsz g3 hv hN
  go_enter Try.func13, Try.ntmps13
  go_wp2_with fail
  generalize ((w.alloc (Obj.cells #[.int .u8 k, .int .i64 l, .int .i64 s, .slice aV N cV, .string t] 24)).alloc (Obj.cells #[.int .u8 0, .int .i64 0, .int .i64 0, .slice none 0 0, .string ⟨#[]⟩] 31)).alloc (Obj.cells #[.int .u8 k, .int .i64 l, .int .i64 s, .slice none 0 0, .string t] 31) = w0 at *
  obtain ⟨b, hb⟩ : ∃ b, w.heap.size = b := ⟨_, rfl⟩
  have HBB := Lib.hid hb
  rw [hb] at HH ⊢
  clear hb
  go_loopw [18] (fun i wr => ∃ (j : Nat) (vj : Value), j ≤ N ∧ i = .int .i64 j ∧ Holds wr (b + 1 + 1) #[.int .u8 k, .int .i64 l, .int .i64 s, vj, .string t] 31 ∧ wr.ownsRow (b + 1 + 1 + 1) 72 2 vj (bl.take j).length (cells2 (bl.take j)) ∧ Gr [b + 1 + 1] w0 wr) (fun i _ => N - (intOf i).toNat)
  case atStart => exact ⟨0, .slice none 0 0, by omega, rfl, HH.out.2.2.1, World.ownsRow_nil _ _ _ _, Gr.refl _ _⟩
  case round =>
    obtain ⟨j, vj, hj, rfl, hx, ho, G⟩ := hrel
    have hszr := G.size
    have hsz0 := HH.out.2.2.2
    have Gw : Gr [] w wr := HG.out.nextN G (fun x hx => .inr (by have := HBB.out; simp at hx; omega))
    obtain ⟨aj, cj, rfl⟩ := own_form2 ho
    by_cases hjN : j < N
    · have hjN2 : (j : Int) < (N : Int) := by omega
      obtain ⟨⟨x1, x2⟩, he⟩ : ∃ e, bl[j]? = some e := ⟨_, List.getElem?_eq_getElem (by have := HN.out; omega)⟩
      obtain ⟨bk, o, hao, hbk, c1, c2⟩ := (sl2_parts HV.out).2.1 j _ he
      have y0 : wr.cell? ⟨bk, o + j * 2, none⟩ = some (.int .i64 x1) := (Gw.cell0 hbk).trans c1
      have y1 : wr.cell? ⟨bk, o + j * 2 + 1, none⟩ = some (.int .i64 x2) := (Gw.cell0 hbk).trans c2
      have q0 := hx.cell 0
      have q3 := hx.cell 3
      have HXA := Lib.hid (hx.alloc (Obj.cells #[.int .i64 x1, .int .i64 x2] 46))
      have HOA := Lib.hid (ho.alloc (Obj.cells #[.int .i64 x1, .int .i64 x2] 46))
      have HGA := Lib.hid (G.alloc (Obj.cells #[.int .i64 x1, .int .i64 x2] 46))
      have HBX := Lib.hid (Holds.new wr #[.int .i64 x1, .int .i64 x2] 46)
      have HTK := Lib.hid (take_snoc2 he)
      obtain ⟨C, hC⟩ : ∃ C, C = bl.take j := ⟨_, rfl⟩
      have hCl : C.length ≤ 100 := by rw [hC, List.length_take]; omega
      rw [← hC] at HOA HTK HXA
      have hCj : (bl.take j).length = C.length := by rw [hC]
      rw [hCj] at q3
      have HCJ := Lib.hid (show (bl.take (j + 1)).length = C.length + 1 by rw [HTK.out]; simp)
      subst hao
      clear c1 c2 he hC hCj hx ho G Gw hbk
      have hn3 := Holds.new (wr.alloc (Obj.cells #[.int .i64 x1, .int .i64 x2] 46)) #[.int .i64 x1, .int .i64 x2] 72
      rw [World.size_alloc] at hn3
      have HN3 := Lib.hid hn3
      have HO3 := Lib.hid (HOA.out.alloc (Obj.cells #[.int .i64 x1, .int .i64 x2] 72))
      have HX3 := Lib.hid (HXA.out.alloc (Obj.cells #[.int .i64 x1, .int .i64 x2] 72))
      have HG3 := Lib.hid (HGA.out.alloc (Obj.cells #[.int .i64 x1, .int .i64 x2] 72))
      have hone : ∀ u ∈ [Value.int .i64 x1, .int .i64 x2], u.oneCell' = true := by simp [Value.oneCell']
      have z0 := HBX.out.cell 0
      have z1 := HBX.out.cell 1
      have q0a := HXA.out.cell 0
      have q3a := HXA.out.cell 3
      clear hn3 HOA HXA HGA HBX
      go_wp2_with (at_builtin; refine wpList_append_own _ rfl _ _ 29 rfl (b + 1 + 1 + 1) 72 i0 _ 2 16 Try.underlying29 hi0 hz0 hz1 hz2 rfl (by decide) _ _ _ rfl HO3.out ⟨wr.heap.size + 1, 0, none⟩ 1 1 [.int .i64 x1, .int .i64 x2] rfl rfl (World.news_of_block HN3.out) hone (by unfold maxLen; omega) (by omega) (by rw [World.size_alloc, World.size_alloc]; omega) ?_)
      intro v4 w4 hown4 hgrow4 _
      have hlt4 := HO3.out.lt
      obtain ⟨a4, c4, rfl⟩ := own_form2 hown4
      have HX4 := Lib.hid (HX3.out.gr (gr_grown hgrow4) (fun hm => by have := (hlt4 _ (by simpa using hm)).1; omega))
      have HG4 := Lib.hid (HG3.out.nextN (gr_grown hgrow4) (fun x hx => .inr (by have := (hlt4 x (by simpa using hx)).1; omega)))
      have HO4 := Lib.hid hown4
      clear hown4 hgrow4 hlt4 HO3 HN3 HX3 HG3 hone z0 z1 q0 q3 q0a q3a y0 y1
      have q0 := HX4.out.cell 0
      have q3 := HX4.out.cell 3
      have f3 := HX4.out.frozen 3
      have hlt5 := HO4.out.lt
      go_wp2_with fail
      go_roundw
      case rel =>
        refine ⟨j + 1, .slice a4 (C.length + 1) c4, by omega, by go_num, HX4.out.set 3 _, ?_, HG4.out.setCell (p := ⟨b + 1 + 1, 3, none⟩) (.inl (by simp)) _⟩
        rw [HCJ.out, HTK.out, cells2_append]
        exact own_gr HO4.out (gr_mem (b := b + 1 + 1) (p := ⟨b + 1 + 1, 3, none⟩) rfl _) (fun x hx hm => by have := (hlt5 x hx).1; simp at hm; omega)
      case measure => simp [intOf]; omega
    · obtain rfl : j = N := by omega
      have ht : bl.take j = bl := by rw [HN.out]; exact List.take_length
      rw [ht] at ho hx
      have hS := own_sl2 ho
      rw [← HN.out] at hS hx
      have hlt := ho.lt
      rw [← HN.out] at hlt
      have HS := Lib.hid (And.intro hS hlt)
      have H2 := Lib.hid (HH.out.2.1.gr G (by simp))
      have HX := Lib.hid hx
      have HGW := Lib.hid Gw
      clear hS hlt ho hx G Gw ht hszr hsz0
      have x0 := HX.out.cell 0
      have x1 := HX.out.cell 1
      have x2 := HX.out.cell 2
      have x3 := HX.out.cell 3
      have x4 := HX.out.cell 4
      have r0 := H2.out.cell 0
      have r1 := H2.out.cell 1
      have r2 := H2.out.cell 2
      have r3 := H2.out.cell 3
      have r4 := H2.out.cell 4
      have f0 := H2.out.frozen 0
      have f1 := H2.out.frozen 1
      have f2 := H2.out.frozen 2
      have f3 := H2.out.frozen 3
      have f4 := H2.out.frozen 4
      go_wp2_with fail
      refine bodyPost_ret (v := .agg #[.int .u8 k, .int .i64 l, .int .i64 s, .slice aj j cj, .string t]) (by simp [results, Try.results13, go_sem, *]) rfl ⟨aj, cj, rfl, ?_, ?_⟩
      · exact HS.out.1.gr (((((gr_mem (b := b + 1) (p := ⟨b + 1, 0, none⟩) rfl _).setCell (p := ⟨b + 1, 1, none⟩) (.inl (by simp)) _).setCell (p := ⟨b + 1, 2, none⟩) (.inl (by simp)) _).setCell (p := ⟨b + 1, 3, none⟩) (.inl (by simp)) _).setCell (p := ⟨b + 1, 4, none⟩) (.inl (by simp)) _) (fun x hx hm => by have := (HS.out.2 x hx).1; simp at hm; omega)
      · have hbb := HBB.out
        exact ((((HGW.out.setCell (p := ⟨b + 1, 0, none⟩) (.inr (by simp only; omega)) _).setCell (p := ⟨b + 1, 1, none⟩) (.inr (by simp only; omega)) _).setCell (p := ⟨b + 1, 2, none⟩) (.inr (by simp only; omega)) _).setCell (p := ⟨b + 1, 3, none⟩) (.inr (by simp only; omega)) _).setCell (p := ⟨b + 1, 4, none⟩) (.inr (by simp only; omega)) _

end Go.Proofs.Ytpkhfdcokcchdab
