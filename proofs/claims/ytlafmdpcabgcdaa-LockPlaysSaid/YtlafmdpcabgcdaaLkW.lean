/-
  Layer 24: Drop.
-/
import Derived.Test.YtlafmdpcabgcdaaLkU
namespace Go.Proofs.Ytlafmdpcabgcdaa
open Go.RowKit

theorem drop1_at (z : Int) (d c : Nat) (B : Nat) (W : World) (hB : W.cell? ⟨B, 0, none⟩ = some (.int .i64 (c : Int))) :
    Calls Try.prog 26 #[.int .i64 z, .int .i64 (d : Int), .pointer (some ⟨B, 0, none⟩)] W fun e w' => e = .returned (.bool (decide (d = c))) ∧ W.grownBy w' none := by
  by_cases h : d = c
  · subst h
    have b1 : ((d : Int) == (d : Int)) = true := by simp
    go_enter Try.func26, Try.ntmps26
    go_wp2_with fail
    go_ret
    exact ⟨by simp, ⟨rfl, rfl, rfl, Nat.le_refl _, fun _ _ _ => rfl⟩⟩
  · have b1 : ((d : Int) == (c : Int)) = false := by rw [beq_eq_false_iff_ne]; omega
    have HE := Lib.hid (show decide (d = c) = false from decide_eq_false h)
    clear h
    go_enter Try.func26, Try.ntmps26
    go_wp2_with fail
    go_ret
    exact ⟨by rw [HE.out]; rfl, ⟨rfl, rfl, rfl, Nat.le_refl _, fun _ _ _ => rfl⟩⟩
/-- maps.DeleteFunc of the holders. -/
theorem delfunc_at (b m c B : Nat) (f : Int → Option Nat) (w : World) (h : MapZ clE 3 w b m f) (hB : w.cell? ⟨B, 0, none⟩ = some (.int .i64 (c : Int))) (hne : B ≠ b) :
    Calls Try.prog 25 #[.map (some b), .func (.func 26) #[] #[.pointer (some ⟨B, 0, none⟩)]] w fun e w' => e = .returned (.tuple #[]) ∧ MapZ clE 3 w' b m (fun x => if f x = some c then none else f x) ∧ w.grownBy w' (some b) := by
  obtain ⟨D, hown, hm⟩ := h
  have eg := enters_of Try.func26 (by kernel_rfl) rfl
  refine (AnyDf.maps_DeleteFunc LkT.del (Maps.int_keyed Try.underlying3) clE.R (fun _ yd => isC c yd) 26 #[.pointer (some ⟨B, 0, none⟩)] b m D w eg hown (fun W key val kl yd yp hg hkey hv => ?_)).mono ?_
  · obtain ⟨z, rfl, rfl, hz⟩ := Maps.keyOf_int_inv Try.underlying3 hkey
    obtain ⟨d, rfl, hy⟩ := clR_inv _ _ hv
    injection hy with hy _
    subst hy
    rw [isC_enc]
    exact drop1_at z d c B W (hg.cell hB (fun e => hne (by injection e)))
  · rintro e w' ⟨rfl, h1, h2⟩
    exact ⟨rfl, ⟨_, h1, delf_is hm hown Try.underlying3 c⟩, h2⟩
theorem drop_is {a : LkA} {n m : Nat} {vs : Nat → Value} {S : LkS} {c : Nat} {w w3 : World} (h : LkIs w a n m vs S) (hc : c < n)
    (HM3 : MapZ clE 3 w3 a.bm m (fun x => if S.H x = some c then none else S.H x)) (g3 : Gr [a.bm] w w3) :
    Gr a.all w (w3.setCell ⟨a.bw, c, none⟩ (.slice none 0 0)).drew ∧ ∃ vs', LkIs (w3.setCell ⟨a.bw, c, none⟩ (.slice none 0 0)).drew a n m vs' (dropL S c) ∧ NwV w (w3.setCell ⟨a.bw, c, none⟩ (.slice none 0 0)).drew vs vs' := by
  have hnd := h.nd
  simp only [LkA.all, List.nodup_cons, List.mem_cons, List.not_mem_nil, or_false, not_or, List.nodup_nil, and_true, not_false_eq_true] at hnd
  have H3 := h.head.gr g3 (by simp; exact hnd.1.1)
  have R3 := h.row.gr g3 (by simp; exact fun e => hnd.2 e.symm)
  have gs : Gr [a.bw] w3 (w3.setCell ⟨a.bw, c, none⟩ (.slice none 0 0)).drew := ((Gr.refl [a.bw] w3).setCell (p := ⟨a.bw, c, none⟩) (.inl (by simp)) _).drew
  have gall : Gr a.all w (w3.setCell ⟨a.bw, c, none⟩ (.slice none 0 0)).drew := (g3.mono (fun b hb => by simp at hb; simp [LkA.all, hb])).trans (gs.mono (fun b hb => by simp at hb; simp [LkA.all, hb]))
  have hok := h.ok.drop c
  refine ⟨gall, fun d => if d = c then .slice none 0 0 else vs d, ⟨H3.gr gs (by simp; exact hnd.1.2), HM3.gr gs (by simp; exact hnd.2), ?_, fun d hdn => ?_, h.nd, hok, h.hi, fun d y hy => ?_⟩, fun d q hq => ?_⟩
  · have := R3.set c (.slice none 0 0)
    rw [row_set] at this
    exact this
  · by_cases e : d = c
    · subst e
      simp only [dropL, if_true, setW]
      exact ⟨none, 0, rfl, RdI.nil _ _, by simp, by unfold maxLen; omega, fun _ => rfl, fun k o e => by cases e⟩
    · simp only [dropL, if_neg e, setW]
      exact (h.each d hdn).gr gall (fun b hb => .inl hb)
  · simp only [dropL, setW] at hy
    split at hy
    · cases hy
    · exact h.wf d y hy
  · simp only at hq
    split at hq
    · cases hq
    · exact .inl hq
set_option maxRecDepth 100000 in
set_option maxHeartbeats 8000000 in
theorem drop_at (a : LkA) (n m : Nat) (vs : Nat → Value) (S : LkS) (c : Nat) (w : World) (h : LkIs w a n m vs S) (hc : c < n) :
    Calls Try.prog 10 #[.pointer (some ⟨a.b, 0, none⟩), .int .i64 c] w fun e w' => e = .returned (.int .i64 0) ∧ Gr a.all w w' ∧ ∃ vs', LkIs w' a n m vs' (dropL S c) ∧ NwV w w' vs vs' := by
  have g1 : Gr [] w (w.alloc (.cells #[.int .i64 c] 3)) := (Gr.refl [] w).alloc _
  have h1 := h.gr0 g1
  have HC := Lib.hid (check_at a n m vs S c _ h1)
  have hk : chkE n c = 0 := by unfold chkE; rw [if_pos (by omega)]
  rw [hk] at HC
  have c0 := h1.c0
  have hB0 : (w.alloc (.cells #[.int .i64 (c : Int)] 3)).cell? ⟨w.heap.size, 0, none⟩ = some (.int .i64 (c : Int)) := (Holds.new w #[.int .i64 (c : Int)] 3).cell 0
  have hbm := h.map.lt
  have HD := Lib.hid (delfunc_at a.bm m c w.heap.size S.H _ h1.map hB0 (by omega))
  have H := Lib.hid (And.intro h h1)
  have ic : (c : Int) < (n : Int) := by omega
  have hnd := h.nd
  simp only [LkA.all, List.nodup_cons, List.mem_cons, List.not_mem_nil, or_false, not_or, List.nodup_nil, and_true, not_false_eq_true] at hnd
  have HND := Lib.hid hnd
  have HG1 := Lib.hid g1
  clear h h1 hk hnd g1 hB0
  go_enter Try.func10, Try.ntmps10
  go_wp2_with (go_at_call 19; refine HC.out.mono ?_; rintro e w' ⟨rfl, hw⟩; rw [hw])
  refine HD.out.mono ?_
  rintro e w2 ⟨rfl, hm2, hg2⟩
  have HM2 := Lib.hid (And.intro hm2 (gr_grownL hg2))
  have d1 : w2.cell? ⟨a.b, 1, none⟩ = some (.slice (some ⟨a.bw, 0, none⟩) n n) := (H.out.2.head.gr (gr_grownL hg2) (by simp; exact HND.out.1.1)).cell 1
  have dB : w2.cell? ⟨w.heap.size, 0, none⟩ = some (.int .i64 (c : Int)) := ((Holds.new w #[.int .i64 (c : Int)] 3).gr (gr_grownL hg2) (by simp; omega)).cell 0
  have hrow := H.out.2.row.gr (gr_grownL hg2) (by simp; exact fun e => HND.out.2 e.symm)
  have dr : w2.cell? ⟨a.bw, c, none⟩ = some (vs c) := by rw [hrow.cell, ← H.out.2.row.cell]; exact H.out.2.at hc
  have df : w2.frozen? ⟨a.bw, c, none⟩ = false := hrow.frozen c
  clear hm2 hg2 hrow
  go_wp2_with fail
  go_region
  all_goals
    go_wp2_with fail
    go_ret
    have HF := drop_is H.out.1 hc HM2.out.1 (HG1.out.of0.trans HM2.out.2)
    exact ⟨rfl, HF.1, HF.2⟩
end Go.Proofs.Ytlafmdpcabgcdaa
