/-
  PmLasts, the walk.
-/
import Derived.Test.YtphaaebbofgdnaaPmZ
import Derived.Test.YtphaaebbofgdnaaFrameT
import Derived.Deep.MidRow
import Derived.Deep.RegionHeld3
import Derived.Deep.QuietTactic
import Derived.BigQuiet
namespace Go.Proofs.Ytphaaebbofgdnaa
open Go.RowKit

/-- The cells of 16 words. -/
def words16 (f : Nat → Nat) : List Value := (rowOf (fun j => .int .u64 (f j : Int)) 16).toList
theorem words16_len (f : Nat → Nat) : (words16 f).length = 16 := by unfold words16 rowOf; simp
theorem siz16 : (Try.prog.info? 37).map (·.size) = some 16 := by kernel_rfl

set_option maxRecDepth 100000 in
theorem index16 (f : Nat → Nat) (k : Nat) (h : k < 16) (W : World) : (Instr.index 37 (.agg (words16 f).toArray) (.int .i64 (k : Int))).run Try.prog W = .ok (.int .u64 (f k : Int)) W := by
  have e : (words16 f).toArray = #[.int .u64 (f 0 : Int), .int .u64 (f 1 : Int), .int .u64 (f 2 : Int), .int .u64 (f 3 : Int), .int .u64 (f 4 : Int), .int .u64 (f 5 : Int), .int .u64 (f 6 : Int), .int .u64 (f 7 : Int), .int .u64 (f 8 : Int), .int .u64 (f 9 : Int), .int .u64 (f 10 : Int), .int .u64 (f 11 : Int), .int .u64 (f 12 : Int), .int .u64 (f 13 : Int), .int .u64 (f 14 : Int), .int .u64 (f 15 : Int)] := by kernel_rfl
  rw [e]
  have hc : k = 0 ∨ k = 1 ∨ k = 2 ∨ k = 3 ∨ k = 4 ∨ k = 5 ∨ k = 6 ∨ k = 7 ∨ k = 8 ∨ k = 9 ∨ k = 10 ∨ k = 11 ∨ k = 12 ∨ k = 13 ∨ k = 14 ∨ k = 15 := by omega
  rcases hc with rfl | rfl | rfl | rfl | rfl | rfl | rfl | rfl | rfl | rfl | rfl | rfl | rfl | rfl | rfl | rfl
  all_goals first | rfl | kernel_rfl | simp [go_sem]
theorem words16_at (f : Nat → Nat) (i : Nat) (h : i < 16) : (words16 f)[i]? = some (.int .u64 (f i : Int)) := by
  unfold words16
  rw [Array.getElem?_toList, rowOf_get _ _ _ h]
theorem Gr.setCells {bs : List Nat} {a : World} {b : Nat} (hb : b ∈ bs ∨ a.heap.size ≤ b) : ∀ (vs : List Value) (o : Nat) (w : World), Gr bs a w → Gr bs a (w.setCells b o vs)
  | [], _, _, h => h
  | v :: t, o, w, h => Gr.setCells hb t (o + 1) (w.setCell ⟨b, o, none⟩ v) (h.setCell (p := ⟨b, o, none⟩) hb v)
set_option maxRecDepth 100000 in
theorem index2 (f0 f1 : Bool) (k : Nat) (h : k < 2) (W : World) : (Instr.index 39 (.agg #[.bool f0, .bool f1]) (.int .i64 (k : Int))).run Try.prog W = .ok (.bool (if k = 0 then f0 else f1)) W := by
  rcases (show k = 0 ∨ k = 1 by omega) with rfl | rfl
  · first | rfl | kernel_rfl | simp [go_sem]
  · first | rfl | kernel_rfl | simp [go_sem]
theorem LzIs.reV {W : World} {a : DevA} {V V' M : Nat → Nat} {l c : Nat} (h : LzIs W a V 0 l M c) : LzIs W a V' 0 l M c := by
  obtain ⟨buf, med, wear, c0, d, h1, r⟩ := h.dev
  exact ⟨buf, med, wear, c0, d, ⟨fun i hi => by omega, h1.2⟩, r⟩
theorem KeepIs.gr0 {W W' : World} {v : Value} {kl : Nat} {kp : Nat → Bool} (h : KeepIs W v kl kp) (g : Gr [] W W') : KeepIs W' v kl kp := by
  obtain ⟨ao, kc, rfl, h1, h2⟩ := h
  refine ⟨ao, kc, rfl, fun j hj => ?_, h2⟩
  obtain ⟨b, o, e, hb, hc⟩ := h1 j hj
  exact ⟨b, o, e, Nat.lt_of_lt_of_le hb g.size, (g.cell0 hb).trans hc⟩
/-- Two arrays of 16 words in new memory. -/
structure Two (wa W : World) (x y : Nat) (A B : Nat → Nat) : Prop where
  gr : Gr [] wa W
  xlt : x < W.heap.size
  ylt : y < W.heap.size
  xc : ∀ i, i < 16 → W.cell? ⟨x, i, none⟩ = some (.int .u64 (A i : Int))
  yc : ∀ i, i < 16 → W.cell? ⟨y, i, none⟩ = some (.int .u64 (B i : Int))
theorem there_new16 (W : World) (t : TypeId) : (W.alloc (.cells (rowOf (fun _ => .int .u64 0) 16) t)).there W.heap.size 0 16 := fun j hj => by
  have H := Holds.new W (rowOf (fun _ => .int .u64 0) 16) t
  rw [Nat.zero_add]
  exact ⟨by rw [H.cell, rowOf_get _ _ _ hj]; rfl, H.frozen j⟩
theorem two_end {wa W2 : World} {x y : Nat} {A B : Nat → Nat} (g : Gr [] wa W2) (hx : W2.there x 0 16) (hy : W2.there y 0 16) (hxa : wa.heap.size ≤ x) (hya : wa.heap.size ≤ y) (hne : x ≠ y) :
    Two wa ((W2.setCells x 0 (words16 A)).setCells y 0 (words16 B)) x y A B := by
  have r1 : (W2.setCells x 0 (words16 A)).rangeAt x 0 (words16 A) := World.rangeAt_setCells_same _ _ _ _ (by rw [words16_len]; exact hx)
  have r2 : ((W2.setCells x 0 (words16 A)).setCells y 0 (words16 B)).rangeAt x 0 (words16 A) := World.rangeAt_setCells_apart r1 _ _ _ (.inl hne)
  have r3 : ((W2.setCells x 0 (words16 A)).setCells y 0 (words16 B)).rangeAt y 0 (words16 B) := World.rangeAt_setCells_same _ _ _ _ (by rw [words16_len]; exact World.there_setCells hy _ _ _)
  have c1 : ∀ i, i < 16 → ((W2.setCells x 0 (words16 A)).setCells y 0 (words16 B)).cell? ⟨x, i, none⟩ = some (.int .u64 (A i : Int)) := fun i hi => by
    have := r2 i _ (words16_at A i hi)
    rwa [Nat.zero_add] at this
  have c2 : ∀ i, i < 16 → ((W2.setCells x 0 (words16 A)).setCells y 0 (words16 B)).cell? ⟨y, i, none⟩ = some (.int .u64 (B i : Int)) := fun i hi => by
    have := r3 i _ (words16_at B i hi)
    rwa [Nat.zero_add] at this
  exact ⟨Gr.setCells (.inr hya) _ _ _ (Gr.setCells (.inr hxa) _ _ _ g), World.block_lt_of_cell? _ _ (c1 0 (by omega)), World.block_lt_of_cell? _ _ (c2 0 (by omega)), c1, c2⟩

set_option maxRecDepth 100000 in
set_option maxHeartbeats 4000000 in
theorem lasts_law (xs : Array Value) (A B : Nat → Nat) (kv : Value) (kl : Nat) (kp : Nat → Bool) (f0 f1 : Bool) (w : World) (hx : xs.toList = words16 A ++ words16 B) (hA : ∀ i, i < 16 → A i < 18446744073709551616) (hB : ∀ i, i < 16 → B i < 18446744073709551616) (hk : KeepIs w kv kl kp) :
    Calls Try.prog 4 #[.agg xs, kv, .agg #[.bool f0, .bool f1]] w fun e w' => e = .returned (.bool true) ∧ Gr [] w w' := by
  have HX := Lib.hid hx
  have HAB := Lib.hid (And.intro hA hB)
  have HK := Lib.hid hk
  clear hx hA hB hk
  go_enter Try.func4, Try.ntmps4
  go_wp2_with fail
  have hX := Holds.new w xs 38
  have hX2 := hX.alloc (.cells #[Value.bool f0, Value.bool f1] 39)
  have hF := Holds.new (w.alloc (.cells xs 38)) #[Value.bool f0, Value.bool f1] 39
  rw [World.size_alloc] at hF
  have g0 : Gr [] w ((w.alloc (.cells xs 38)).alloc (.cells #[Value.bool f0, Value.bool f1] 39)) := ((Gr.refl [] w).alloc _).alloc _
  have hz : ((w.alloc (.cells xs 38)).alloc (.cells #[Value.bool f0, Value.bool f1] 39)).heap.size = w.heap.size + 1 + 1 := by rw [World.size_alloc, World.size_alloc]
  clear hX
  generalize (w.alloc (.cells xs 38)).alloc (.cells #[Value.bool f0, Value.bool f1] 39) = wa at *
  have r1 : wa.rangeAt w.heap.size 0 (words16 A) := fun j v hv => by
    rw [Nat.zero_add, hX2.cell, ← Array.getElem?_toList, HX.out, List.getElem?_append_left (by have := (List.getElem?_eq_some_iff.1 hv).1; exact this)]
    exact hv
  have r2 : wa.rangeAt w.heap.size 16 (words16 B) := fun j v hv => by
    rw [hX2.cell, ← Array.getElem?_toList, HX.out, List.getElem?_append_right (by rw [words16_len]; omega), words16_len, Nat.add_sub_cancel_left]
    exact hv
  have HF := Lib.hid hF
  have HG := Lib.hid g0
  have HZ := Lib.hid hz
  clear hX2 hF g0 hz
  obtain ⟨bx, hbx⟩ : ∃ bx, w.heap.size = bx := ⟨_, rfl⟩
  rw [hbx] at r1 r2 ⊢
  have HBX := Lib.hid hbx
  clear hbx
  have hu : Try.prog.underlying 37 = some (.array 16 30) := Try.underlying37
  have hiA : (Try.prog.info? 37).map (·.size) = some (words16 A).length := by rw [words16_len]; exact siz16
  have hiB : (Try.prog.info? 37).map (·.size) = some (words16 B).length := by rw [words16_len]; exact siz16
  have hS : (fun w' : World => w'.rangeAt bx 0 (words16 A) ∧ w'.rangeAt bx 16 (words16 B)) wa := ⟨r1, r2⟩
  have hone : ∀ f : Nat → Nat, ((words16 f).toArray).all (·.oneCell') = true := fun f => by
    unfold words16 rowOf
    simp
    intro x _
    rfl
  have hsz : ∀ f : Nat → Nat, ((words16 f).toArray).size = 16 := fun f => by rw [List.size_toArray, words16_len]
  have hz16 : #[Value.int .u64 0, Value.int .u64 0, Value.int .u64 0, Value.int .u64 0, Value.int .u64 0, Value.int .u64 0, Value.int .u64 0, Value.int .u64 0, Value.int .u64 0, Value.int .u64 0, Value.int .u64 0, Value.int .u64 0, Value.int .u64 0, Value.int .u64 0, Value.int .u64 0, Value.int .u64 0] = rowOf (fun _ => .int .u64 0) 16 := by kernel_rfl
  have HO := Lib.hid (And.intro hone (And.intro hsz hz16))
  clear hone hsz hz16
  refine wp_region_held_drew (S := fun w' : World => w'.rangeAt bx 0 (words16 A) ∧ w'.rangeAt bx 16 (words16 B)) (by kernel_rfl) ⟨r1, r2⟩ (fun hHeld => ?_)
  refine wpAnyH_take (i := 0) (v := .pointer (some ⟨bx, 0, none⟩)) rfl (by kernel_rfl) (by kernel_rfl) (by kernel_rfl) (fun _ _ _ h => h) (Or.inl ⟨by rfl, ?_⟩) hHeld ?_
  · intro w hSw; go_simp
  simp only [Act.put, List.setIfInBounds_toArray, List.set_cons_zero, List.set_cons_succ]
  refine wpAnyH_take (i := 1) (v := .agg (words16 A).toArray) rfl (by kernel_rfl) (by kernel_rfl) (by kernel_rfl) (fun _ _ _ h => h) (yieldsIf_load_mid (by rfl) _ _ rfl _ _ rfl _ _ (fun w h => h.1) hu rfl hiA) hHeld ?_
  simp only [Act.put, List.setIfInBounds_toArray, List.set_cons_zero, List.set_cons_succ]
  refine wpAnyH_take (i := 2) (v := .pointer (some ⟨bx, 16, none⟩)) rfl (by kernel_rfl) (by kernel_rfl) (by kernel_rfl) (fun _ _ _ h => h) (Or.inl ⟨by rfl, ?_⟩) hHeld ?_
  · intro w hSw; go_simp
  simp only [Act.put, List.setIfInBounds_toArray, List.set_cons_zero, List.set_cons_succ]
  refine wpAnyH_take (i := 3) (v := .agg (words16 B).toArray) rfl (by kernel_rfl) (by kernel_rfl) (by kernel_rfl) (fun _ _ _ h => h) (yieldsIf_load_mid (by rfl) _ _ rfl _ _ rfl _ _ (fun w h => h.2) hu rfl hiB) hHeld ?_
  simp only [Act.put, List.setIfInBounds_toArray, List.set_cons_zero, List.set_cons_succ]
  refine wpAnyH_ready (rs := [4, 5]) (by kernel_rfl) (by simp) ?_
  refine AllReadyH.cons rfl (fun K hK => ?_) (AllReadyH.cons rfl (fun K hK => ?_) AllReadyH.nil)
  · go_simp
    refine hK.out _ _ ⟨World.rangeAt_alloc hHeld.1 _, World.rangeAt_alloc hHeld.2 _⟩ (fun hHeld => ?_)
    clear hK K
    refine wpAnyH_ready (rs := [5]) (by kernel_rfl) (by simp) ?_
    refine AllReadyH.cons rfl (fun K hK => ?_) AllReadyH.nil
    go_simp
    refine hK.out _ _ ⟨World.rangeAt_alloc hHeld.1 _, World.rangeAt_alloc hHeld.2 _⟩ (fun hHeld => ?_)
    clear hK K
    have t1 : (((wa.alloc (.cells #[Value.int .u64 0, Value.int .u64 0, Value.int .u64 0, Value.int .u64 0, Value.int .u64 0, Value.int .u64 0, Value.int .u64 0, Value.int .u64 0, Value.int .u64 0, Value.int .u64 0, Value.int .u64 0, Value.int .u64 0, Value.int .u64 0, Value.int .u64 0, Value.int .u64 0, Value.int .u64 0] 37)).alloc (.cells #[Value.int .u64 0, Value.int .u64 0, Value.int .u64 0, Value.int .u64 0, Value.int .u64 0, Value.int .u64 0, Value.int .u64 0, Value.int .u64 0, Value.int .u64 0, Value.int .u64 0, Value.int .u64 0, Value.int .u64 0, Value.int .u64 0, Value.int .u64 0, Value.int .u64 0, Value.int .u64 0] 37)).drew).there wa.heap.size 0 16 := by
      rw [HO.out.2.2]
      exact World.there_alloc (there_new16 wa _) _
    have t2 : (((wa.alloc (.cells #[Value.int .u64 0, Value.int .u64 0, Value.int .u64 0, Value.int .u64 0, Value.int .u64 0, Value.int .u64 0, Value.int .u64 0, Value.int .u64 0, Value.int .u64 0, Value.int .u64 0, Value.int .u64 0, Value.int .u64 0, Value.int .u64 0, Value.int .u64 0, Value.int .u64 0, Value.int .u64 0] 37)).alloc (.cells #[Value.int .u64 0, Value.int .u64 0, Value.int .u64 0, Value.int .u64 0, Value.int .u64 0, Value.int .u64 0, Value.int .u64 0, Value.int .u64 0, Value.int .u64 0, Value.int .u64 0, Value.int .u64 0, Value.int .u64 0, Value.int .u64 0, Value.int .u64 0, Value.int .u64 0, Value.int .u64 0] 37)).drew).there (wa.heap.size + 1) 0 16 := by
      rw [HO.out.2.2]
      have := there_new16 (wa.alloc (.cells (rowOf (fun _ => .int .u64 0) 16) 37)) 37
      rw [World.size_alloc] at this
      exact this
    have gw : Gr [] wa (((wa.alloc (.cells #[Value.int .u64 0, Value.int .u64 0, Value.int .u64 0, Value.int .u64 0, Value.int .u64 0, Value.int .u64 0, Value.int .u64 0, Value.int .u64 0, Value.int .u64 0, Value.int .u64 0, Value.int .u64 0, Value.int .u64 0, Value.int .u64 0, Value.int .u64 0, Value.int .u64 0, Value.int .u64 0] 37)).alloc (.cells #[Value.int .u64 0, Value.int .u64 0, Value.int .u64 0, Value.int .u64 0, Value.int .u64 0, Value.int .u64 0, Value.int .u64 0, Value.int .u64 0, Value.int .u64 0, Value.int .u64 0, Value.int .u64 0, Value.int .u64 0, Value.int .u64 0, Value.int .u64 0, Value.int .u64 0, Value.int .u64 0] 37)).drew) := (((Gr.refl [] wa).alloc _).alloc _).drew
    generalize ((wa.alloc (.cells #[Value.int .u64 0, Value.int .u64 0, Value.int .u64 0, Value.int .u64 0, Value.int .u64 0, Value.int .u64 0, Value.int .u64 0, Value.int .u64 0, Value.int .u64 0, Value.int .u64 0, Value.int .u64 0, Value.int .u64 0, Value.int .u64 0, Value.int .u64 0, Value.int .u64 0, Value.int .u64 0] 37)).alloc (.cells #[Value.int .u64 0, Value.int .u64 0, Value.int .u64 0, Value.int .u64 0, Value.int .u64 0, Value.int .u64 0, Value.int .u64 0, Value.int .u64 0, Value.int .u64 0, Value.int .u64 0, Value.int .u64 0, Value.int .u64 0, Value.int .u64 0, Value.int .u64 0, Value.int .u64 0, Value.int .u64 0] 37)).drew = W2 at *
    have tw := Lib.hid (two_end (A := A) (B := B) gw t1 t2 (by omega) (by omega) (by omega))
    refine wpAnyH_ready (rs := [6]) (by kernel_rfl) (by simp) ?_
    refine AllReadyH.cons rfl (fun K hK => ?_) AllReadyH.nil
    rw [if_pos (by rfl)]
    refine wp_store_mid _ _ _ rfl wa.heap.size 0 (List.toArray (words16 A)) rfl rfl (by rw [HO.out.2.1]; exact t1) (by rw [HO.out.2.1]; exact siz16) (HO.out.1 A) ?_
    simp only [Act.put, List.setIfInBounds_toArray, List.set_cons_zero, List.set_cons_succ, List.toList_toArray, List.getElem_toArray, List.getElem_cons_succ, List.getElem_cons_zero]
    refine hK.out _ _ ⟨World.rangeAt_setCells_apart hHeld.1 _ _ _ (.inl (by have := HZ.out; have := HBX.out; omega)), World.rangeAt_setCells_apart hHeld.2 _ _ _ (.inl (by have := HZ.out; have := HBX.out; omega))⟩ (fun hHeld => ?_)
    clear hK K
    refine wpAnyH_ready (rs := [7]) (by kernel_rfl) (by simp) ?_
    refine AllReadyH.cons rfl (fun K hK => ?_) AllReadyH.nil
    rw [if_pos (by rfl)]
    refine wp_store_mid _ _ _ rfl (wa.heap.size + 1) 0 (List.toArray (words16 B)) rfl rfl (by rw [HO.out.2.1]; exact World.there_setCells t2 _ _ _) (by rw [HO.out.2.1]; exact siz16) (HO.out.1 B) ?_
    simp only [Act.put, List.setIfInBounds_toArray, List.set_cons_zero, List.set_cons_succ, List.toList_toArray, List.getElem_toArray, List.getElem_cons_succ, List.getElem_cons_zero]
    refine hK.out _ _ ⟨World.rangeAt_setCells_apart hHeld.1 _ _ _ (.inl (by have := HZ.out; have := HBX.out; omega)), World.rangeAt_setCells_apart hHeld.2 _ _ _ (.inl (by have := HZ.out; have := HBX.out; omega))⟩ (fun hHeld => ?_)
    clear hK K
    refine wpAnyH_done (by kernel_rfl) ?_ _
    have T2 := Lib.hid tw.out
    clear hHeld t1 t2 gw tw
    generalize (W2.setCells wa.heap.size 0 (words16 A)).setCells (wa.heap.size + 1) 0 (words16 B) = w0 at *
    obtain ⟨bA, hbA⟩ : ∃ bA, bA = wa.heap.size := ⟨_, rfl⟩
    obtain ⟨bB, hbB⟩ : ∃ bB, bB = (wa.heap.size + 1) := ⟨_, rfl⟩
    rw [← hbB, ← hbA]
    rw [← hbB, ← hbA] at T2
    clear hbA hbB
    clear HO hiA hiB
    have HKW := Lib.hid (HK.out.gr0 (HG.out.trans T2.out.gr))
    have HGW := Lib.hid (HG.out.trans T2.out.gr)
    have hfl := HF.out.gr0 T2.out.gr
    rw [HBX.out] at hfl
    have HFW := Lib.hid hfl
    have HCA := Lib.hid (show ∀ wr, Gr [] w0 wr → wr.rangeAt bA 0 (words16 A) from fun wr g j v hv => by
      have hj := (List.getElem?_eq_some_iff.1 hv).1
      rw [words16_len] at hj
      rw [words16_at A j hj] at hv
      rw [Nat.zero_add, g.cell0 T2.out.xlt, T2.out.xc j hj]
      exact hv)
    have HCB := Lib.hid (show ∀ wr, Gr [] w0 wr → wr.rangeAt bB 0 (words16 B) from fun wr g j v hv => by
      have hj := (List.getElem?_eq_some_iff.1 hv).1
      rw [words16_len] at hj
      rw [words16_at B j hj] at hv
      rw [Nat.zero_add, g.cell0 T2.out.ylt, T2.out.yc j hj]
      exact hv)
    have hkm : kl ≤ 9223372036854775807 := by
      obtain ⟨_, _, _, _, _, h⟩ := HK.out
      unfold maxLen at h
      omega
    clear hfl HF HG HZ HX HBX HK r1 r2
    go_wp2_with fail
    refine (pmnew_yes 2 _ (by omega) (by omega)).mono ?_
    rintro e w1 ⟨a, rfl, d1, hlo, g1⟩
    have HN := Lib.hid (show ∀ (wa wb : World), Gr [] w0 wa → Gr a.all wa wb → Gr [] w0 wb from fun wa wb p q => p.nextN q fun x hx => .inr (hlo x hx))
    clear hlo
    go_wp2_with fail
    refine (wakes03 _).mono ?_
    rintro e w2 ⟨rfl, q2⟩
    have d2 := d1.gr0 q2
    have g2 := g1.next0 q2
    have L2 : LzIs w2 a A 0 0 (fun _ => 0) 0 := ⟨_, _, _, _, d2, BufTo.none A, (fun i hi => by omega), (fun _ _ => rfl), (fun l => ⟨Int.le_refl _, Int.le_refl _⟩), Nat.le_refl _⟩
    have HR := Lib.hid (HCA.out w2 g2)
    have HD := Lib.hid (And.intro L2 g2)
    clear d1 g1 q2 d2 g2 L2
    go_wp2_with (refine wpList_load_mid rfl 37 _ rfl bA 0 rfl (words16 A) _ HR.out hu rfl (by rw [words16_len]; exact siz16) ?_)
    clear HR
    go_loopw [40] (fun z wr => ∃ j : Nat, j ≤ 16 ∧ z = .int .i64 (j : Int) ∧ LzIs wr a A j 0 (fun _ => 0) j ∧ Gr [] w0 wr) (fun z _ => 16 - (intOf z).toNat)
    case atStart => exact ⟨0, by omega, rfl, HD.out.1, HD.out.2⟩
    case round =>
      clear HD
      obtain ⟨j, hj, rfl, L3, g3⟩ := hrel
      by_cases hlt : j < 16
      · have hix := index16 A j hlt
        have HS := Lib.hid (lz_store (a := a) j (A j) hlt (HAB.out.1 j hlt) (by omega) rfl rfl L3)
        have HG3 := Lib.hid g3
        have hd : decide ((j : Int) < 16) = true := by simp; omega
        clear L3 g3
        go_wp2_with fail
        refine HS.out.mono ?_
        rintro e w4 ⟨rfl, L4, q4⟩
        have HD := Lib.hid (And.intro L4 (HN.out _ _ HG3.out q4))
        clear L4 q4 HS HG3 hix
        go_wp2_with fail
        go_roundw
        case rel => exact ⟨j + 1, by omega, by go_num, HD.out.1, HD.out.2⟩
        case measure => simp [intOf]; omega
      · obtain rfl : j = 16 := by omega
        have HS := Lib.hid (lz_flush (a := a) 0 (by omega) (by omega) L3)
        have HG3 := Lib.hid g3
        clear L3 g3
        rw [show ((16 : Nat) : Int) = 16 from rfl]
        go_wp2_with fail
        refine HS.out.mono ?_
        rintro e w4 ⟨rfl, L4, q4⟩
        have HS := Lib.hid (lz_flush (a := a) (l := 1) 1 (by omega) (by omega) L4)
        have HG4 := Lib.hid (HN.out _ _ HG3.out q4)
        clear L4 q4 HG3
        go_wp2_with fail
        refine HS.out.mono ?_
        rintro e w5 ⟨rfl, L5, q5⟩
        have HS := Lib.hid (lz_fence (a := a) (by omega) L5)
        have HG5 := Lib.hid (HN.out _ _ HG4.out q5)
        clear L5 q5 HG4
        go_wp2_with fail
        refine HS.out.mono ?_
        rintro e w6 ⟨rfl, L6, q6⟩
        have g6 := HN.out _ _ HG5.out q6
        have HS := Lib.hid (lz_pend (a := a) (by omega) L6)
        have HD := Lib.hid (And.intro L6 g6)
        clear L6 q6 g6 HG5
        go_wp2_with fail
        refine HS.out.mono ?_
        rintro e w7 ⟨rfl, q7⟩
        have g7 := HD.out.2.next0 q7
        have L7 : LzIs w7 a B 0 0 A 19 := LzIs.reV (HD.out.1.gr q7 (by simp))
        have HR := Lib.hid (HCB.out w7 g7)
        have HD := Lib.hid (And.intro L7 g7)
        clear L7 q7 g7 HS
        go_wp2_with (refine wpList_load_mid rfl 37 _ rfl bB 0 rfl (words16 B) _ HR.out hu rfl (by rw [words16_len]; exact siz16) ?_)
        clear HR
        go_loopw [63] (fun z wr => ∃ j : Nat, j ≤ 16 ∧ z = .int .i64 (j : Int) ∧ LzIs wr a B j 0 A (19 + j) ∧ Gr [] w0 wr) (fun z _ => 16 - (intOf z).toNat)
        case atStart => exact ⟨0, by omega, rfl, HD.out.1, HD.out.2⟩
        case round =>
          clear HD
          obtain ⟨j, hj, rfl, L3, g3⟩ := hrel
          by_cases hlt : j < 16
          · have hix := index16 B j hlt
            have HS := Lib.hid (lz_store (a := a) j (B j) hlt (HAB.out.2 j hlt) (by omega) rfl rfl L3)
            have HG3 := Lib.hid g3
            have hd : decide ((j : Int) < 16) = true := by simp; omega
            clear L3 g3
            go_wp2_with fail
            refine HS.out.mono ?_
            rintro e w4 ⟨rfl, L4, q4⟩
            have HD := Lib.hid (And.intro L4 (HN.out _ _ HG3.out q4))
            clear L4 q4 HS HG3 hix
            go_wp2_with fail
            go_roundw
            case rel => exact ⟨j + 1, by omega, by go_num, HD.out.1, HD.out.2⟩
            case measure => simp [intOf]; omega
          · obtain rfl : j = 16 := by omega
            have hf0 : wr.cell? ⟨bx + 1, 0, none⟩ = some (.bool f0) := (HFW.out.gr0 g3).cell 0
            have hf1 : wr.cell? ⟨bx + 1, 1, none⟩ = some (.bool f1) := (HFW.out.gr0 g3).cell 1
            have HD := Lib.hid (And.intro L3 g3)
            clear L3 g3
            rw [show ((16 : Nat) : Int) = 16 from rfl]
            go_wp2_with fail
            go_loopw [73] (fun z wr => ∃ j l c : Nat, j ≤ 2 ∧ c ≤ 35 + j ∧ z = .int .i64 (j : Int) ∧ LzIs wr a B 16 l A c ∧ Gr [] w0 wr) (fun z _ => 2 - (intOf z).toNat)
            case atStart => exact ⟨0, 0, 35, by omega, by omega, rfl, HD.out.1, HD.out.2⟩
            case round =>
              clear HD hf0 hf1
              obtain ⟨j, l, c, hj, hc, rfl, L3, g3⟩ := hrel
              by_cases hlt : j < 2
              · have hix := index2 f0 f1 j hlt
                obtain ⟨fj, hfj⟩ : ∃ fj, (if j = 0 then f0 else f1) = fj := ⟨_, rfl⟩
                rw [hfj] at hix
                clear hfj
                have HS := Lib.hid (lz_flush (a := a) j hlt (by omega) L3)
                have HD := Lib.hid (And.intro L3 g3)
                have hd : decide ((j : Int) < 2) = true := by simp; omega
                clear L3 g3
                cases fj with
                | true =>
                  go_wp2_with fail
                  refine HS.out.mono ?_
                  rintro e w4 ⟨rfl, L4, q4⟩
                  have HD := Lib.hid (And.intro L4 (HN.out _ _ HD.out.2 q4))
                  clear L4 q4 HS hix
                  go_wp2_with fail
                  go_roundw
                  case rel => exact ⟨j + 1, _, c + 1, by omega, by omega, by go_num, HD.out.1, HD.out.2⟩
                  case measure => simp [intOf]; omega
                | false =>
                  go_wp2_with fail
                  go_roundw
                  case rel => exact ⟨j + 1, _, c, by omega, by omega, by go_num, HD.out.1, HD.out.2⟩
                  case measure => simp [intOf]; omega
              · obtain rfl : j = 2 := by omega
                have HS := Lib.hid (lz_boot (a := a) kv kl kp (HKW.out.gr0 g3) (by omega) L3)
                have HG3 := Lib.hid g3
                clear L3 g3
                rw [show ((2 : Nat) : Int) = 2 from rfl]
                go_wp2_with fail
                refine HS.out.mono ?_
                rintro e w4 ⟨rfl, L4, q4⟩
                have HD := Lib.hid (And.intro L4 (HN.out _ _ HG3.out q4))
                clear L4 q4 HS HG3
                go_wp2_with fail
                go_loopw [85] (fun z wr => ∃ i : Nat, i ≤ 16 ∧ z = .int .i64 (i : Int) ∧ LzIs wr a (fun _ => 0) 0 0 (fun i => if kp i = true then B i else A i) (c + 1) ∧ Gr [] w0 wr) (fun z _ => 16 - (intOf z).toNat)
                case atStart => exact ⟨0, by omega, rfl, HD.out.1, HD.out.2⟩
                case round =>
                  clear HD
                  obtain ⟨i, hi, rfl, L5, g5⟩ := hrel
                  by_cases hlt : i < 16
                  · have hd16 : decide ((i : Int) < 16) = true := by simp; omega
                    have hcA : wr.cell? ⟨bA, i, none⟩ = some (.int .u64 (A i : Int)) := (g5.cell0 T2.out.xlt).trans (T2.out.xc i hlt)
                    have hcB : wr.cell? ⟨bB, i, none⟩ = some (.int .u64 (B i : Int)) := (g5.cell0 T2.out.ylt).trans (T2.out.yc i hlt)
                    obtain ⟨ao, kc, hkv, hk1, hk2, _⟩ := HKW.out.gr0 g5
                    obtain ⟨X, hX⟩ : ∃ X, X = (if kp i = true then B i else A i) := ⟨_, rfl⟩
                    have HLd := Lib.hid (show ∀ W, Gr [] wr W → Calls Try.prog 22 #[.pointer (some ⟨a.bd, 0, none⟩), .int .i64 (i : Int)] W fun e w' => e = .returned (.tuple #[.int .u64 (X : Int), .int .i64 0]) ∧ Gr [] W w' from fun W g => by rw [hX]; exact lz_load i hlt (L5.gr g (by simp)))
                    have HMd := Lib.hid (show ∀ W, Gr [] wr W → Calls Try.prog 23 #[.pointer (some ⟨a.bd, 0, none⟩), .int .i64 (i : Int)] W fun e w' => e = .returned (.int .u64 (X : Int)) ∧ W = w' from fun W g => by rw [hX]; exact lz_media i hlt (L5.gr g (by simp)))
                    have HD := Lib.hid (And.intro L5 g5)
                    clear L5 g5
                    by_cases hkl : i < kl
                    · obtain ⟨bk, ok, rfl, _, hck⟩ := hk1 i hkl
                      have hdk : decide ((i : Int) < (kl : Int)) = true := by simpa using hkl
                      clear hk1 hk2
                      subst hkv
                      cases hkp : kp i with
                      | true =>
                        rw [hkp] at hck hX
                        rw [if_pos rfl] at hX
                        clear hkp
                        subst hX
                        go_wp2_with fail
                        refine (HLd.out _ (Gr.refl _ _)).mono ?_
                        rintro e w6 ⟨rfl, q6⟩
                        have HQ := Lib.hid q6
                        clear q6 hck hcA hcB
                        go_wp2_with fail
                        refine (HMd.out _ HQ.out).mono ?_
                        rintro e w7 ⟨rfl, rfl⟩
                        go_wp2_with fail
                        go_roundw
                        case rel => exact ⟨i + 1, by omega, by go_num, HD.out.1.gr HQ.out (by simp), HD.out.2.next0 HQ.out⟩
                        case measure => simp [intOf]; omega
                      | false =>
                        rw [hkp] at hck hX
                        rw [if_neg (by simp)] at hX
                        clear hkp
                        subst hX
                        go_wp2_with fail
                        refine (HLd.out _ (Gr.refl _ _)).mono ?_
                        rintro e w6 ⟨rfl, q6⟩
                        have HQ := Lib.hid q6
                        clear q6 hck hcA hcB
                        go_wp2_with fail
                        refine (HMd.out _ HQ.out).mono ?_
                        rintro e w7 ⟨rfl, rfl⟩
                        go_wp2_with fail
                        go_roundw
                        case rel => exact ⟨i + 1, by omega, by go_num, HD.out.1.gr HQ.out (by simp), HD.out.2.next0 HQ.out⟩
                        case measure => simp [intOf]; omega
                    · have hdk : decide ((i : Int) < (kl : Int)) = false := by simp; omega
                      rw [hk2 i (by omega), if_neg (by simp)] at hX
                      clear hk1 hk2
                      subst hkv
                      subst hX
                      go_wp2_with fail
                      refine (HLd.out _ (Gr.refl _ _)).mono ?_
                      rintro e w6 ⟨rfl, q6⟩
                      have HQ := Lib.hid q6
                      clear q6 hcA hcB
                      go_wp2_with fail
                      refine (HMd.out _ HQ.out).mono ?_
                      rintro e w7 ⟨rfl, rfl⟩
                      go_wp2_with fail
                      go_roundw
                      case rel => exact ⟨i + 1, by omega, by go_num, HD.out.1.gr HQ.out (by simp), HD.out.2.next0 HQ.out⟩
                      case measure => simp [intOf]; omega
                  · obtain rfl : i = 16 := by omega
                    have HS := Lib.hid (lz_pend (a := a) (by omega) L5)
                    have HG5 := Lib.hid g5
                    clear L5 g5
                    rw [show ((16 : Nat) : Int) = 16 from rfl]
                    go_wp2_with fail
                    refine HS.out.mono ?_
                    rintro e w7 ⟨rfl, q7⟩
                    have HQ := Lib.hid q7
                    clear q7
                    go_wp2_with fail
                    go_ret
                    exact ⟨rfl, (HGW.out.trans HG5.out).trans HQ.out⟩
  · go_simp
    refine hK.out _ _ ⟨World.rangeAt_alloc hHeld.1 _, World.rangeAt_alloc hHeld.2 _⟩ (fun hHeld => ?_)
    clear hK K
    refine wpAnyH_ready (rs := [4]) (by kernel_rfl) (by simp) ?_
    refine AllReadyH.cons rfl (fun K hK => ?_) AllReadyH.nil
    go_simp
    refine hK.out _ _ ⟨World.rangeAt_alloc hHeld.1 _, World.rangeAt_alloc hHeld.2 _⟩ (fun hHeld => ?_)
    clear hK K
    have t1 : (((wa.alloc (.cells #[Value.int .u64 0, Value.int .u64 0, Value.int .u64 0, Value.int .u64 0, Value.int .u64 0, Value.int .u64 0, Value.int .u64 0, Value.int .u64 0, Value.int .u64 0, Value.int .u64 0, Value.int .u64 0, Value.int .u64 0, Value.int .u64 0, Value.int .u64 0, Value.int .u64 0, Value.int .u64 0] 37)).alloc (.cells #[Value.int .u64 0, Value.int .u64 0, Value.int .u64 0, Value.int .u64 0, Value.int .u64 0, Value.int .u64 0, Value.int .u64 0, Value.int .u64 0, Value.int .u64 0, Value.int .u64 0, Value.int .u64 0, Value.int .u64 0, Value.int .u64 0, Value.int .u64 0, Value.int .u64 0, Value.int .u64 0] 37)).drew).there wa.heap.size 0 16 := by
      rw [HO.out.2.2]
      exact World.there_alloc (there_new16 wa _) _
    have t2 : (((wa.alloc (.cells #[Value.int .u64 0, Value.int .u64 0, Value.int .u64 0, Value.int .u64 0, Value.int .u64 0, Value.int .u64 0, Value.int .u64 0, Value.int .u64 0, Value.int .u64 0, Value.int .u64 0, Value.int .u64 0, Value.int .u64 0, Value.int .u64 0, Value.int .u64 0, Value.int .u64 0, Value.int .u64 0] 37)).alloc (.cells #[Value.int .u64 0, Value.int .u64 0, Value.int .u64 0, Value.int .u64 0, Value.int .u64 0, Value.int .u64 0, Value.int .u64 0, Value.int .u64 0, Value.int .u64 0, Value.int .u64 0, Value.int .u64 0, Value.int .u64 0, Value.int .u64 0, Value.int .u64 0, Value.int .u64 0, Value.int .u64 0] 37)).drew).there (wa.heap.size + 1) 0 16 := by
      rw [HO.out.2.2]
      have := there_new16 (wa.alloc (.cells (rowOf (fun _ => .int .u64 0) 16) 37)) 37
      rw [World.size_alloc] at this
      exact this
    have gw : Gr [] wa (((wa.alloc (.cells #[Value.int .u64 0, Value.int .u64 0, Value.int .u64 0, Value.int .u64 0, Value.int .u64 0, Value.int .u64 0, Value.int .u64 0, Value.int .u64 0, Value.int .u64 0, Value.int .u64 0, Value.int .u64 0, Value.int .u64 0, Value.int .u64 0, Value.int .u64 0, Value.int .u64 0, Value.int .u64 0] 37)).alloc (.cells #[Value.int .u64 0, Value.int .u64 0, Value.int .u64 0, Value.int .u64 0, Value.int .u64 0, Value.int .u64 0, Value.int .u64 0, Value.int .u64 0, Value.int .u64 0, Value.int .u64 0, Value.int .u64 0, Value.int .u64 0, Value.int .u64 0, Value.int .u64 0, Value.int .u64 0, Value.int .u64 0] 37)).drew) := (((Gr.refl [] wa).alloc _).alloc _).drew
    generalize ((wa.alloc (.cells #[Value.int .u64 0, Value.int .u64 0, Value.int .u64 0, Value.int .u64 0, Value.int .u64 0, Value.int .u64 0, Value.int .u64 0, Value.int .u64 0, Value.int .u64 0, Value.int .u64 0, Value.int .u64 0, Value.int .u64 0, Value.int .u64 0, Value.int .u64 0, Value.int .u64 0, Value.int .u64 0] 37)).alloc (.cells #[Value.int .u64 0, Value.int .u64 0, Value.int .u64 0, Value.int .u64 0, Value.int .u64 0, Value.int .u64 0, Value.int .u64 0, Value.int .u64 0, Value.int .u64 0, Value.int .u64 0, Value.int .u64 0, Value.int .u64 0, Value.int .u64 0, Value.int .u64 0, Value.int .u64 0, Value.int .u64 0] 37)).drew = W2 at *
    have tw := Lib.hid (two_end (A := A) (B := B) gw t2 t1 (by omega) (by omega) (by omega))
    refine wpAnyH_ready (rs := [6]) (by kernel_rfl) (by simp) ?_
    refine AllReadyH.cons rfl (fun K hK => ?_) AllReadyH.nil
    rw [if_pos (by rfl)]
    refine wp_store_mid _ _ _ rfl (wa.heap.size + 1) 0 (List.toArray (words16 A)) rfl rfl (by rw [HO.out.2.1]; exact t2) (by rw [HO.out.2.1]; exact siz16) (HO.out.1 A) ?_
    simp only [Act.put, List.setIfInBounds_toArray, List.set_cons_zero, List.set_cons_succ, List.toList_toArray, List.getElem_toArray, List.getElem_cons_succ, List.getElem_cons_zero]
    refine hK.out _ _ ⟨World.rangeAt_setCells_apart hHeld.1 _ _ _ (.inl (by have := HZ.out; have := HBX.out; omega)), World.rangeAt_setCells_apart hHeld.2 _ _ _ (.inl (by have := HZ.out; have := HBX.out; omega))⟩ (fun hHeld => ?_)
    clear hK K
    refine wpAnyH_ready (rs := [7]) (by kernel_rfl) (by simp) ?_
    refine AllReadyH.cons rfl (fun K hK => ?_) AllReadyH.nil
    rw [if_pos (by rfl)]
    refine wp_store_mid _ _ _ rfl wa.heap.size 0 (List.toArray (words16 B)) rfl rfl (by rw [HO.out.2.1]; exact World.there_setCells t1 _ _ _) (by rw [HO.out.2.1]; exact siz16) (HO.out.1 B) ?_
    simp only [Act.put, List.setIfInBounds_toArray, List.set_cons_zero, List.set_cons_succ, List.toList_toArray, List.getElem_toArray, List.getElem_cons_succ, List.getElem_cons_zero]
    refine hK.out _ _ ⟨World.rangeAt_setCells_apart hHeld.1 _ _ _ (.inl (by have := HZ.out; have := HBX.out; omega)), World.rangeAt_setCells_apart hHeld.2 _ _ _ (.inl (by have := HZ.out; have := HBX.out; omega))⟩ (fun hHeld => ?_)
    clear hK K
    refine wpAnyH_done (by kernel_rfl) ?_ _
    have T2 := Lib.hid tw.out
    clear hHeld t1 t2 gw tw
    generalize (W2.setCells (wa.heap.size + 1) 0 (words16 A)).setCells wa.heap.size 0 (words16 B) = w0 at *
    obtain ⟨bA, hbA⟩ : ∃ bA, bA = (wa.heap.size + 1) := ⟨_, rfl⟩
    obtain ⟨bB, hbB⟩ : ∃ bB, bB = wa.heap.size := ⟨_, rfl⟩
    rw [← hbA, ← hbB]
    rw [← hbA, ← hbB] at T2
    clear hbA hbB
    clear HO hiA hiB
    have HKW := Lib.hid (HK.out.gr0 (HG.out.trans T2.out.gr))
    have HGW := Lib.hid (HG.out.trans T2.out.gr)
    have hfl := HF.out.gr0 T2.out.gr
    rw [HBX.out] at hfl
    have HFW := Lib.hid hfl
    have HCA := Lib.hid (show ∀ wr, Gr [] w0 wr → wr.rangeAt bA 0 (words16 A) from fun wr g j v hv => by
      have hj := (List.getElem?_eq_some_iff.1 hv).1
      rw [words16_len] at hj
      rw [words16_at A j hj] at hv
      rw [Nat.zero_add, g.cell0 T2.out.xlt, T2.out.xc j hj]
      exact hv)
    have HCB := Lib.hid (show ∀ wr, Gr [] w0 wr → wr.rangeAt bB 0 (words16 B) from fun wr g j v hv => by
      have hj := (List.getElem?_eq_some_iff.1 hv).1
      rw [words16_len] at hj
      rw [words16_at B j hj] at hv
      rw [Nat.zero_add, g.cell0 T2.out.ylt, T2.out.yc j hj]
      exact hv)
    have hkm : kl ≤ 9223372036854775807 := by
      obtain ⟨_, _, _, _, _, h⟩ := HK.out
      unfold maxLen at h
      omega
    clear hfl HF HG HZ HX HBX HK r1 r2
    go_wp2_with fail
    refine (pmnew_yes 2 _ (by omega) (by omega)).mono ?_
    rintro e w1 ⟨a, rfl, d1, hlo, g1⟩
    have HN := Lib.hid (show ∀ (wa wb : World), Gr [] w0 wa → Gr a.all wa wb → Gr [] w0 wb from fun wa wb p q => p.nextN q fun x hx => .inr (hlo x hx))
    clear hlo
    go_wp2_with fail
    refine (wakes03 _).mono ?_
    rintro e w2 ⟨rfl, q2⟩
    have d2 := d1.gr0 q2
    have g2 := g1.next0 q2
    have L2 : LzIs w2 a A 0 0 (fun _ => 0) 0 := ⟨_, _, _, _, d2, BufTo.none A, (fun i hi => by omega), (fun _ _ => rfl), (fun l => ⟨Int.le_refl _, Int.le_refl _⟩), Nat.le_refl _⟩
    have HR := Lib.hid (HCA.out w2 g2)
    have HD := Lib.hid (And.intro L2 g2)
    clear d1 g1 q2 d2 g2 L2
    go_wp2_with (refine wpList_load_mid rfl 37 _ rfl bA 0 rfl (words16 A) _ HR.out hu rfl (by rw [words16_len]; exact siz16) ?_)
    clear HR
    go_loopw [40] (fun z wr => ∃ j : Nat, j ≤ 16 ∧ z = .int .i64 (j : Int) ∧ LzIs wr a A j 0 (fun _ => 0) j ∧ Gr [] w0 wr) (fun z _ => 16 - (intOf z).toNat)
    case atStart => exact ⟨0, by omega, rfl, HD.out.1, HD.out.2⟩
    case round =>
      clear HD
      obtain ⟨j, hj, rfl, L3, g3⟩ := hrel
      by_cases hlt : j < 16
      · have hix := index16 A j hlt
        have HS := Lib.hid (lz_store (a := a) j (A j) hlt (HAB.out.1 j hlt) (by omega) rfl rfl L3)
        have HG3 := Lib.hid g3
        have hd : decide ((j : Int) < 16) = true := by simp; omega
        clear L3 g3
        go_wp2_with fail
        refine HS.out.mono ?_
        rintro e w4 ⟨rfl, L4, q4⟩
        have HD := Lib.hid (And.intro L4 (HN.out _ _ HG3.out q4))
        clear L4 q4 HS HG3 hix
        go_wp2_with fail
        go_roundw
        case rel => exact ⟨j + 1, by omega, by go_num, HD.out.1, HD.out.2⟩
        case measure => simp [intOf]; omega
      · obtain rfl : j = 16 := by omega
        have HS := Lib.hid (lz_flush (a := a) 0 (by omega) (by omega) L3)
        have HG3 := Lib.hid g3
        clear L3 g3
        rw [show ((16 : Nat) : Int) = 16 from rfl]
        go_wp2_with fail
        refine HS.out.mono ?_
        rintro e w4 ⟨rfl, L4, q4⟩
        have HS := Lib.hid (lz_flush (a := a) (l := 1) 1 (by omega) (by omega) L4)
        have HG4 := Lib.hid (HN.out _ _ HG3.out q4)
        clear L4 q4 HG3
        go_wp2_with fail
        refine HS.out.mono ?_
        rintro e w5 ⟨rfl, L5, q5⟩
        have HS := Lib.hid (lz_fence (a := a) (by omega) L5)
        have HG5 := Lib.hid (HN.out _ _ HG4.out q5)
        clear L5 q5 HG4
        go_wp2_with fail
        refine HS.out.mono ?_
        rintro e w6 ⟨rfl, L6, q6⟩
        have g6 := HN.out _ _ HG5.out q6
        have HS := Lib.hid (lz_pend (a := a) (by omega) L6)
        have HD := Lib.hid (And.intro L6 g6)
        clear L6 q6 g6 HG5
        go_wp2_with fail
        refine HS.out.mono ?_
        rintro e w7 ⟨rfl, q7⟩
        have g7 := HD.out.2.next0 q7
        have L7 : LzIs w7 a B 0 0 A 19 := LzIs.reV (HD.out.1.gr q7 (by simp))
        have HR := Lib.hid (HCB.out w7 g7)
        have HD := Lib.hid (And.intro L7 g7)
        clear L7 q7 g7 HS
        go_wp2_with (refine wpList_load_mid rfl 37 _ rfl bB 0 rfl (words16 B) _ HR.out hu rfl (by rw [words16_len]; exact siz16) ?_)
        clear HR
        go_loopw [63] (fun z wr => ∃ j : Nat, j ≤ 16 ∧ z = .int .i64 (j : Int) ∧ LzIs wr a B j 0 A (19 + j) ∧ Gr [] w0 wr) (fun z _ => 16 - (intOf z).toNat)
        case atStart => exact ⟨0, by omega, rfl, HD.out.1, HD.out.2⟩
        case round =>
          clear HD
          obtain ⟨j, hj, rfl, L3, g3⟩ := hrel
          by_cases hlt : j < 16
          · have hix := index16 B j hlt
            have HS := Lib.hid (lz_store (a := a) j (B j) hlt (HAB.out.2 j hlt) (by omega) rfl rfl L3)
            have HG3 := Lib.hid g3
            have hd : decide ((j : Int) < 16) = true := by simp; omega
            clear L3 g3
            go_wp2_with fail
            refine HS.out.mono ?_
            rintro e w4 ⟨rfl, L4, q4⟩
            have HD := Lib.hid (And.intro L4 (HN.out _ _ HG3.out q4))
            clear L4 q4 HS HG3 hix
            go_wp2_with fail
            go_roundw
            case rel => exact ⟨j + 1, by omega, by go_num, HD.out.1, HD.out.2⟩
            case measure => simp [intOf]; omega
          · obtain rfl : j = 16 := by omega
            have hf0 : wr.cell? ⟨bx + 1, 0, none⟩ = some (.bool f0) := (HFW.out.gr0 g3).cell 0
            have hf1 : wr.cell? ⟨bx + 1, 1, none⟩ = some (.bool f1) := (HFW.out.gr0 g3).cell 1
            have HD := Lib.hid (And.intro L3 g3)
            clear L3 g3
            rw [show ((16 : Nat) : Int) = 16 from rfl]
            go_wp2_with fail
            go_loopw [73] (fun z wr => ∃ j l c : Nat, j ≤ 2 ∧ c ≤ 35 + j ∧ z = .int .i64 (j : Int) ∧ LzIs wr a B 16 l A c ∧ Gr [] w0 wr) (fun z _ => 2 - (intOf z).toNat)
            case atStart => exact ⟨0, 0, 35, by omega, by omega, rfl, HD.out.1, HD.out.2⟩
            case round =>
              clear HD hf0 hf1
              obtain ⟨j, l, c, hj, hc, rfl, L3, g3⟩ := hrel
              by_cases hlt : j < 2
              · have hix := index2 f0 f1 j hlt
                obtain ⟨fj, hfj⟩ : ∃ fj, (if j = 0 then f0 else f1) = fj := ⟨_, rfl⟩
                rw [hfj] at hix
                clear hfj
                have HS := Lib.hid (lz_flush (a := a) j hlt (by omega) L3)
                have HD := Lib.hid (And.intro L3 g3)
                have hd : decide ((j : Int) < 2) = true := by simp; omega
                clear L3 g3
                cases fj with
                | true =>
                  go_wp2_with fail
                  refine HS.out.mono ?_
                  rintro e w4 ⟨rfl, L4, q4⟩
                  have HD := Lib.hid (And.intro L4 (HN.out _ _ HD.out.2 q4))
                  clear L4 q4 HS hix
                  go_wp2_with fail
                  go_roundw
                  case rel => exact ⟨j + 1, _, c + 1, by omega, by omega, by go_num, HD.out.1, HD.out.2⟩
                  case measure => simp [intOf]; omega
                | false =>
                  go_wp2_with fail
                  go_roundw
                  case rel => exact ⟨j + 1, _, c, by omega, by omega, by go_num, HD.out.1, HD.out.2⟩
                  case measure => simp [intOf]; omega
              · obtain rfl : j = 2 := by omega
                have HS := Lib.hid (lz_boot (a := a) kv kl kp (HKW.out.gr0 g3) (by omega) L3)
                have HG3 := Lib.hid g3
                clear L3 g3
                rw [show ((2 : Nat) : Int) = 2 from rfl]
                go_wp2_with fail
                refine HS.out.mono ?_
                rintro e w4 ⟨rfl, L4, q4⟩
                have HD := Lib.hid (And.intro L4 (HN.out _ _ HG3.out q4))
                clear L4 q4 HS HG3
                go_wp2_with fail
                go_loopw [85] (fun z wr => ∃ i : Nat, i ≤ 16 ∧ z = .int .i64 (i : Int) ∧ LzIs wr a (fun _ => 0) 0 0 (fun i => if kp i = true then B i else A i) (c + 1) ∧ Gr [] w0 wr) (fun z _ => 16 - (intOf z).toNat)
                case atStart => exact ⟨0, by omega, rfl, HD.out.1, HD.out.2⟩
                case round =>
                  clear HD
                  obtain ⟨i, hi, rfl, L5, g5⟩ := hrel
                  by_cases hlt : i < 16
                  · have hd16 : decide ((i : Int) < 16) = true := by simp; omega
                    have hcA : wr.cell? ⟨bA, i, none⟩ = some (.int .u64 (A i : Int)) := (g5.cell0 T2.out.xlt).trans (T2.out.xc i hlt)
                    have hcB : wr.cell? ⟨bB, i, none⟩ = some (.int .u64 (B i : Int)) := (g5.cell0 T2.out.ylt).trans (T2.out.yc i hlt)
                    obtain ⟨ao, kc, hkv, hk1, hk2, _⟩ := HKW.out.gr0 g5
                    obtain ⟨X, hX⟩ : ∃ X, X = (if kp i = true then B i else A i) := ⟨_, rfl⟩
                    have HLd := Lib.hid (show ∀ W, Gr [] wr W → Calls Try.prog 22 #[.pointer (some ⟨a.bd, 0, none⟩), .int .i64 (i : Int)] W fun e w' => e = .returned (.tuple #[.int .u64 (X : Int), .int .i64 0]) ∧ Gr [] W w' from fun W g => by rw [hX]; exact lz_load i hlt (L5.gr g (by simp)))
                    have HMd := Lib.hid (show ∀ W, Gr [] wr W → Calls Try.prog 23 #[.pointer (some ⟨a.bd, 0, none⟩), .int .i64 (i : Int)] W fun e w' => e = .returned (.int .u64 (X : Int)) ∧ W = w' from fun W g => by rw [hX]; exact lz_media i hlt (L5.gr g (by simp)))
                    have HD := Lib.hid (And.intro L5 g5)
                    clear L5 g5
                    by_cases hkl : i < kl
                    · obtain ⟨bk, ok, rfl, _, hck⟩ := hk1 i hkl
                      have hdk : decide ((i : Int) < (kl : Int)) = true := by simpa using hkl
                      clear hk1 hk2
                      subst hkv
                      cases hkp : kp i with
                      | true =>
                        rw [hkp] at hck hX
                        rw [if_pos rfl] at hX
                        clear hkp
                        subst hX
                        go_wp2_with fail
                        refine (HLd.out _ (Gr.refl _ _)).mono ?_
                        rintro e w6 ⟨rfl, q6⟩
                        have HQ := Lib.hid q6
                        clear q6 hck hcA hcB
                        go_wp2_with fail
                        refine (HMd.out _ HQ.out).mono ?_
                        rintro e w7 ⟨rfl, rfl⟩
                        go_wp2_with fail
                        go_roundw
                        case rel => exact ⟨i + 1, by omega, by go_num, HD.out.1.gr HQ.out (by simp), HD.out.2.next0 HQ.out⟩
                        case measure => simp [intOf]; omega
                      | false =>
                        rw [hkp] at hck hX
                        rw [if_neg (by simp)] at hX
                        clear hkp
                        subst hX
                        go_wp2_with fail
                        refine (HLd.out _ (Gr.refl _ _)).mono ?_
                        rintro e w6 ⟨rfl, q6⟩
                        have HQ := Lib.hid q6
                        clear q6 hck hcA hcB
                        go_wp2_with fail
                        refine (HMd.out _ HQ.out).mono ?_
                        rintro e w7 ⟨rfl, rfl⟩
                        go_wp2_with fail
                        go_roundw
                        case rel => exact ⟨i + 1, by omega, by go_num, HD.out.1.gr HQ.out (by simp), HD.out.2.next0 HQ.out⟩
                        case measure => simp [intOf]; omega
                    · have hdk : decide ((i : Int) < (kl : Int)) = false := by simp; omega
                      rw [hk2 i (by omega), if_neg (by simp)] at hX
                      clear hk1 hk2
                      subst hkv
                      subst hX
                      go_wp2_with fail
                      refine (HLd.out _ (Gr.refl _ _)).mono ?_
                      rintro e w6 ⟨rfl, q6⟩
                      have HQ := Lib.hid q6
                      clear q6 hcA hcB
                      go_wp2_with fail
                      refine (HMd.out _ HQ.out).mono ?_
                      rintro e w7 ⟨rfl, rfl⟩
                      go_wp2_with fail
                      go_roundw
                      case rel => exact ⟨i + 1, by omega, by go_num, HD.out.1.gr HQ.out (by simp), HD.out.2.next0 HQ.out⟩
                      case measure => simp [intOf]; omega
                  · obtain rfl : i = 16 := by omega
                    have HS := Lib.hid (lz_pend (a := a) (by omega) L5)
                    have HG5 := Lib.hid g5
                    clear L5 g5
                    rw [show ((16 : Nat) : Int) = 16 from rfl]
                    go_wp2_with fail
                    refine HS.out.mono ?_
                    rintro e w7 ⟨rfl, q7⟩
                    have HQ := Lib.hid q7
                    clear q7
                    go_wp2_with fail
                    go_ret
                    exact ⟨rfl, (HGW.out.trans HG5.out).trans HQ.out⟩

theorem two16 (a0 : List Int) (h : a0.length = 32) (hw : ∀ x ∈ a0, (Lit.int .u64 x).wf = true) :
    ((a0.map (Value.int .u64)).toArray).toList = words16 (fun i => (a0.getD i 0).toNat) ++ words16 (fun i => (a0.getD (16 + i) 0).toNat) := by
  have hnat : ∀ i, i < 32 → ((a0.getD i 0).toNat : Int) = a0.getD i 0 := fun i hi => by
    have hm : a0.getD i 0 ∈ a0 := by
      rw [List.getD_eq_getElem?_getD, List.getElem?_eq_getElem (by omega)]
      exact List.getElem_mem _
    have := bounds_u64 (hw _ hm)
    omega
  apply List.ext_getElem?
  intro i
  by_cases h1 : i < 16
  · rw [List.getElem?_append_left (by rw [words16_len]; exact h1), words16_at _ _ h1]
    dsimp only
    rw [hnat i (by omega), List.getElem?_map, List.getElem?_eq_getElem (by omega), List.getD_eq_getElem?_getD, List.getElem?_eq_getElem (by omega)]
    rfl
  · by_cases h2 : i < 32
    · rw [List.getElem?_append_right (by rw [words16_len]; omega), words16_len, words16_at _ _ (by omega)]
      dsimp only
      rw [show 16 + (i - 16) = i by omega, hnat i h2, List.getElem?_map, List.getElem?_eq_getElem (by omega), List.getD_eq_getElem?_getD, List.getElem?_eq_getElem (by omega)]
      rfl
    · rw [List.getElem?_eq_none (by simp; omega), List.getElem?_eq_none (by rw [List.length_append, words16_len, words16_len]; omega)]
theorem walk_PmLasts (a0 : List Int) (v1 : Value) (k1 : Nat) (p1 : Nat → Bool) (a2 : List Bool) {w : World} (l0 : a0.length = 2 * 16) (w0 : ∀ x ∈ a0, (Lit.int .u64 x).wf = true) (s1 : SlB w v1 k1 p1) (l2 : a2.length = 2) :
    Calls Try.prog 4 #[.agg (a0.map (Value.int .u64)).toArray, v1, .agg (a2.map Value.bool).toArray] w fun e w' => e = .returned (.bool true) ∧ Below w.heap.size w w' := by
  match a2, l2 with
  | [f0, f1], _ =>
    have hb : ∀ i, i < 32 → (a0.getD i 0).toNat < 18446744073709551616 := fun i hi => by
      have hm : a0.getD i 0 ∈ a0 := by
        rw [List.getD_eq_getElem?_getD, List.getElem?_eq_getElem (by omega)]
        exact List.getElem_mem _
      have := bounds_u64 (w0 _ hm)
      omega
    obtain ⟨ao, kc, h1, h2, h3, h4, _⟩ := s1
    exact (lasts_law _ _ _ v1 k1 p1 f0 f1 w (two16 a0 l0 w0) (fun i hi => hb i (by omega)) (fun i hi => hb (16 + i) (by omega)) ⟨ao, kc, h1, h2, h3, h4⟩).mono fun _ _ q => ⟨q.1, q.2.below0⟩

end Go.Proofs.Ytphaaebbofgdnaa
