/-
  Layer 15: the law's list and tame.
-/
import Derived.Test.YtpkhfdcokcchdaaExJ
namespace Go.Proofs.Ytpkhfdcokcchdaa
open Go.RowKit

theorem infoI15 : (Try.prog.info? 3).map (fun i => (i.zero, i.size, i.bytes)) = some (some (.int .i64 0), 1, 8) := by kernel_rfl
theorem cells2_one2 (x y : Int) : ∀ u ∈ [Value.int .i64 x, .int .i64 y], u.oneCell' = true := by simp [Value.oneCell']
theorem take_snoc {α : Type} {l : List α} {k : Nat} {e : α} (h : l[k]? = some e) : l.take (k + 1) = l.take k ++ [e] := by
  obtain ⟨a, b⟩ := List.getElem?_eq_some_iff.1 h
  rw [List.take_succ_eq_append_getElem a, b]
set_option maxHeartbeats 2000000 in
set_option maxRecDepth 20000 in
theorem elist_some (l : List (Int × Int)) (N b o cap : Nat) (w : World) (h : Rd2 w (some ⟨b, o, none⟩) l) (hN : N = l.length) (hc : N ≤ cap) (hmax : cap ≤ maxLen) :
    Calls Try.prog 41 #[.slice (some ⟨b, o, none⟩) N cap] w fun e w' => ∃ v, e = .returned (.tuple #[v, .slice (some ⟨b, o, none⟩) (min N 70) cap]) ∧ w'.ownsRow w.heap.size 35 2 v (l.take (min N 70)).length (cells2 (l.take (min N 70))) ∧ Gr [] w w' := by
  obtain ⟨i0, hi0, hz0, hz1, hz2⟩ := info_parts infoExt
  obtain ⟨M, hM⟩ : ∃ M, M = min N 70 := ⟨_, rfl⟩
  have hmn := minZ Try.prog (N : Int) 70 (M : Int) (by omega)
  have hM1 : M ≤ N := by omega
  have hM2 : M ≤ 70 := by omega
  have hM3 : M ≤ cap := by omega
  rw [← hM]
  have HR := Lib.hid h
  have HN := Lib.hid hN
  unfold maxLen at hmax
  clear h hN hM
  go_enter Try.func41, Try.ntmps41
  go_wp2_with fail
  clear hmn
  go_loopw [4, 14] (fun v i wr => ∃ k : Nat, k ≤ M ∧ i = .int .i64 k ∧ wr.ownsRow w.heap.size 35 2 v k (cells2 (l.take k)) ∧ Gr [] w wr) (fun _ i _ => M - (intOf i).toNat)
  case atStart => exact ⟨0, by omega, rfl, World.ownsRow_nil _ _ _ _, Gr.refl _ _⟩
  case round =>
    obtain ⟨k, hk, rfl, ho, G⟩ := hrel
    have HQ := Lib.hid (And.intro ho G)
    have hsz := G.size
    clear ho G
    by_cases hkM : k < M
    · have hkM2 : (k : Int) < (M : Int) := by omega
      obtain ⟨⟨x1, x2⟩, hx⟩ : ∃ x, l[k]? = some x := ⟨_, List.getElem?_eq_getElem (by have := HN.out; omega)⟩
      obtain ⟨hb, c1, c2⟩ := HR.out.at hx
      have y0 : wr.cell? ⟨b, o + k * 2, none⟩ = some (.int .i64 x1) := (HQ.out.2.cell0 hb).trans c1
      have y1 : wr.cell? ⟨b, o + k * 2 + 1, none⟩ = some (.int .i64 x2) := (HQ.out.2.cell0 hb).trans c2
      have HTK := Lib.hid (take_snoc hx)
      clear c1 c2 hx
      have HX := Lib.hid (Holds.new wr #[.int .i64 x1, .int .i64 x2] 44)
      have HOA := Lib.hid (HQ.out.1.alloc (Obj.cells #[.int .i64 x1, .int .i64 x2] 44))
      have HGA := Lib.hid (HQ.out.2.alloc (Obj.cells #[.int .i64 x1, .int .i64 x2] 44))
      have z0 := HX.out.cell 0
      have z1 := HX.out.cell 1
      have HO3 := Lib.hid (HOA.out.alloc (Obj.cells #[.int .i64 x1, .int .i64 x2] 35))
      have HN3 := Lib.hid (Holds.new (wr.alloc (Obj.cells #[.int .i64 x1, .int .i64 x2] 44)) #[.int .i64 x1, .int .i64 x2] 35)
      rw [World.size_alloc] at HN3
      go_wp2_with (at_builtin; refine wpList_append_own _ rfl _ _ 82 rfl w.heap.size 35 i0 _ 2 16 Try.underlying82 hi0 hz0 hz1 hz2 rfl (by decide) _ _ _ rfl HO3.out ⟨wr.heap.size + 1, 0, none⟩ 1 1 [.int .i64 x1, .int .i64 x2] rfl rfl (World.news_of_block HN3.out) (cells2_one2 x1 x2) (by unfold maxLen; omega) (by omega) (by rw [World.size_alloc, World.size_alloc]; omega) ?_)
      intro v4 w4 hown4 hgrow4 _
      have hlt4 := HO3.out.lt
      have HF := Lib.hid (And.intro (show w4.ownsRow w.heap.size 35 2 v4 (k + 1) (cells2 (l.take (k + 1))) by
        rw [HTK.out, cells2_append]; exact hown4) ((HGA.out.alloc (Obj.cells #[.int .i64 x1, .int .i64 x2] 35)).nextN (gr_grown hgrow4) (fun x hx => .inr (hlt4 x (by simpa using hx)).1)))
      clear hown4 hgrow4 hlt4 HO3 HN3 z0 z1 y0 y1
      go_wp2_with fail
      go_roundw
      case rel => exact ⟨k + 1, by omega, by go_num, HF.out.1, HF.out.2⟩
      case measure => simp [intOf]; omega
    · obtain rfl : k = M := by omega
      obtain ⟨aa, cc, rfl⟩ := own_form HQ.out.1
      have hll : (l.take k).length = k := by rw [List.length_take]; have := HN.out; omega
      have HLL := Lib.hid hll
      clear hll
      go_wp2_with fail
      exact bodyPost_ret (v := .tuple #[.slice aa k cc, .slice (some ⟨b, o, none⟩) k cap]) (by simp [results, Try.results41, go_sem]) rfl ⟨_, rfl, by rw [HLL.out]; exact HQ.out.1, HQ.out.2⟩
theorem elist_none (w : World) :
    Calls Try.prog 41 #[.slice none 0 0] w fun e w' => e = .returned (.tuple #[.slice none 0 0, .slice none 0 0]) ∧ Gr [] w w' := by
  have hmn := minZ Try.prog 0 70 0 (by omega)
  go_enter Try.func41, Try.ntmps41
  go_wp2_with fail
  clear hmn
  go_loopw [4, 14] (fun v i wr => v = .slice none 0 0 ∧ i = .int .i64 0 ∧ wr = w) (fun _ _ _ => 0)
  case atStart => exact ⟨rfl, rfl, rfl⟩
  case round =>
    obtain ⟨rfl, rfl, rfl⟩ := hrel
    go_wp2_with fail
    exact bodyPost_ret (v := .tuple #[.slice none 0 0, .slice none 0 0]) (by simp [results, Try.results41, go_sem]) rfl ⟨rfl, Gr.refl _ _⟩

end Go.Proofs.Ytpkhfdcokcchdaa
