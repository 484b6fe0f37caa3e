/-
  alloc: Take (what it calls; refused; a run that has room).
-/
import Derived.Test.YtpkhfdcokcchdaaAlF
namespace Go.Proofs.Ytpkhfdcokcchdaa
open Go.RowKit

theorem afree_bel (N : Nat) (l : List (Nat × Nat)) (ao : Option Addr) (cap : Nat) (w : World) (h : SetIs w N l ao cap) :
    Calls Try.prog 24 #[.agg #[.int .i64 N, .slice ao l.length cap]] w fun e w' => e = .returned (.int .i64 (sumL l)) ∧ Below w.heap.size w w' :=
  (afree_any N l ao cap w h).mono fun _ _ q => ⟨q.1, q.2.below0⟩
theorem apred_any (a m : Int) (bn : Nat) (n : Int) (w : World) (h : w.cell? ⟨bn, 0, none⟩ = some (.int .i64 n)) :
    Calls Try.prog 77 #[.agg #[.int .i64 a, .int .i64 m], .pointer (some ⟨bn, 0, none⟩)] w fun e w' => e = .returned (.bool (decide (n ≤ m))) ∧ Gr [] w w' := by
  have g := (Gr.refl [] w).alloc (Obj.cells #[.int .i64 a, .int .i64 m] 35)
  have hb : bn < w.heap.size := World.block_lt_of_cell? w _ h
  have h2 : (w.alloc (Obj.cells #[.int .i64 a, .int .i64 m] 35)).cell? ⟨bn, 0, none⟩ = some (.int .i64 n) := by rw [g.cell0 hb]; exact h
  have HG := Lib.hid g
  clear g h
  go_enter Try.func77, Try.ntmps77
  go_wp2
  go_ret
  exact ⟨rfl, HG.out⟩
def fitZ (l : List (Nat × Nat)) (n : Nat) : Int := match fitI l n with | some i => (i : Int) | none => -1
theorem fitZ_at {l : List (Nat × Nat)} {n i : Nat} {e : Nat × Nat} (he : l[i]? = some e) (hn : n ≤ e.2) (hb : ∀ j x, j < i → l[j]? = some x → x.2 < n) : fitZ l n = i := by
  have key : fitI l n = some i := by
    induction l generalizing i with
    | nil => cases he
    | cons y r ih =>
      unfold fitI
      cases i with
      | zero => simp at he; subst he; rw [if_pos hn]
      | succ i =>
        rw [if_neg (by have := hb 0 y (by omega) rfl; omega), ih (i := i) (by simpa using he) (fun j x hj hx => hb (j + 1) x (by omega) (by simpa using hx))]
        rfl
  unfold fitZ
  rw [key]
theorem fitZ_none {l : List (Nat × Nat)} {n : Nat} (h : ∀ (j : Nat) (x : Nat × Nat), l[j]? = some x → x.2 < n) : fitZ l n = -1 := by
  cases q : fitI l n with
  | none => unfold fitZ; rw [q]
  | some i =>
    obtain ⟨e, h1, h2, _⟩ := fitI_some q
    have := h i e h1
    omega
set_option maxHeartbeats 1000000 in
theorem aidx_any (N : Nat) (l : List (Nat × Nat)) (ao : Option Addr) (cap bn n : Nat) (w : World) (h : SetIs w N l ao cap) (hn : w.cell? ⟨bn, 0, none⟩ = some (.int .i64 n)) :
    Calls Try.prog 76 #[.slice ao l.length cap, .func (.func 77) #[] #[.pointer (some ⟨bn, 0, none⟩)]] w fun e w' => e = .returned (.int .i64 (fitZ l n)) ∧ Gr [] w w' := by
  have HS := Lib.hid h
  have hlen := h.len
  have hhi := h.hi
  have hbn : bn < w.heap.size := World.block_lt_of_cell? w _ hn
  have HP := Lib.hid (fun (W : World) (g : Gr [] w W) (a m : Int) => apred_any a m bn n W (by rw [g.cell0 hbn]; exact hn))
  clear h hn
  obtain ⟨m, hm⟩ : ∃ m, m = l.length := ⟨_, rfl⟩
  rw [← hm] at hlen ⊢
  have HN := Lib.hid hm
  clear hm
  go_enter Try.func76, Try.ntmps76
  go_wp2_with fail
  go_loopw [8] (fun i wr => ∃ k : Nat, k ≤ m ∧ i = .int .i64 k ∧ Gr [] w wr ∧ ∀ j x, j < k → l[j]? = some x → x.2 < n) (fun i _ => m - (intOf i).toNat)
  case atStart => exact ⟨0, by omega, rfl, Gr.refl _ _, fun j x hj => by omega⟩
  case round =>
    obtain ⟨k, hk, rfl, G, L⟩ := hrel
    have HL := Lib.hid (And.intro G L)
    clear G L
    by_cases hlt : k < m
    · obtain ⟨e, he⟩ : ∃ e, l[k]? = some e := ⟨_, List.getElem?_eq_getElem (by have := HN.out; omega)⟩
      obtain ⟨b, o, hao, hb, c1, c2⟩ := HS.out.at he
      subst hao
      have d1 : wr.cell? ⟨b, o + k * 2, none⟩ = some (.int .i64 (e.1 : Int)) := by rw [HL.out.1.cell0 hb]; exact c1
      have d2 : wr.cell? ⟨b, o + k * 2 + 1, none⟩ = some (.int .i64 (e.2 : Int)) := by rw [HL.out.1.cell0 hb]; exact c2
      have HE := Lib.hid he
      clear c1 c2 he
      by_cases c : n ≤ e.2
      · have HC := Lib.hid (HP.out wr HL.out.1 e.1 e.2)
        rw [decide_eq_true (show (n : Int) ≤ (e.2 : Int) by omega)] at HC
        have HF := Lib.hid (fitZ_at HE.out c HL.out.2)
        clear c
        go_wp2_with fail
        refine HC.out.mono ?_
        rintro e' w' ⟨rfl, g⟩
        have HG := Lib.hid (HL.out.1.next0 g)
        clear g
        go_wp2_with fail
        go_ret
        exact ⟨by rw [HF.out]; rfl, HG.out⟩
      · have HC := Lib.hid (HP.out wr HL.out.1 e.1 e.2)
        rw [decide_eq_false (show ¬ (n : Int) ≤ (e.2 : Int) by omega)] at HC
        have HF := Lib.hid (show ∀ j x, j < k + 1 → l[j]? = some x → x.2 < n from fun j x hj hx => by
          by_cases q : j = k
          · subst q
            rw [HE.out] at hx
            injection hx with hx
            subst hx
            omega
          · exact HL.out.2 j x (by omega) hx)
        clear c
        go_wp2_with fail
        refine HC.out.mono ?_
        rintro e' w' ⟨rfl, g⟩
        have HG := Lib.hid (HL.out.1.next0 g)
        clear g
        go_wp2
        go_roundw
        case rel => exact ⟨k + 1, by omega, by go_num, HG.out, HF.out⟩
        case measure => simp [intOf]; omega
    · obtain rfl : k = m := by omega
      have HF := Lib.hid (fitZ_none (l := l) (n := n) (fun j x hx => HL.out.2 j x (by have := (List.getElem?_eq_some_iff.1 hx).1; have := HN.out; omega) hx))
      go_wp2_with fail
      go_ret
      exact ⟨by rw [HF.out]; rfl, HL.out.1⟩

set_option maxHeartbeats 2000000 in
set_option maxRecDepth 20000 in
theorem atake_no (N : Nat) (l : List (Nat × Nat)) (ao : Option Addr) (cap : Nat) (n : Int) (w : World) (h : SetIs w N l ao cap) (hn : n < 1 ∨ (sumL l : Int) < n) :
    Calls Try.prog 21 #[.agg #[.int .i64 N, .slice ao l.length cap], .int .i64 n] w fun e w' => e = .returned (.tuple #[.agg #[.int .i64 0, .slice none 0 0], .slice none 0 0, .int .i64 (if n < 1 then 2 else 12)]) ∧ Gr [] w w' := by
  have HG := Lib.hid ((((Gr.refl [] w).alloc (Obj.cells #[.int .i64 N, .slice ao l.length cap] 25)).alloc (Obj.cells #[.int .i64 n] 3)).alloc (Obj.cells #[.int .i64 0, .slice none 0 0] 25))
  have X1 := Holds.new w #[.int .i64 N, .slice ao l.length cap] 25
  have X2 := Holds.new (w.alloc (Obj.cells #[.int .i64 N, .slice ao l.length cap] 25)) #[.int .i64 n] 3
  have X3 := Holds.new ((w.alloc (Obj.cells #[.int .i64 N, .slice ao l.length cap] 25)).alloc (Obj.cells #[.int .i64 n] 3)) #[.int .i64 0, .slice none 0 0] 25
  have HF := Lib.hid (fun (W : World) (g : Gr [] w W) => afree_bel N l ao cap W (h.gr0 g))
  clear h
  obtain ⟨m, hm⟩ : ∃ m, m = l.length := ⟨_, rfl⟩
  obtain ⟨s, hs⟩ : ∃ s, s = sumL l := ⟨_, rfl⟩
  rw [← hm] at HG HF X1 X2 X3 ⊢
  rw [← hs] at HF hn
  simp only [World.size_alloc] at X2 X3
  have HX := Lib.hid (And.intro ((X1.alloc (Obj.cells #[.int .i64 n] 3)).alloc (Obj.cells #[.int .i64 0, .slice none 0 0] 25)) (And.intro (X2.alloc (Obj.cells #[.int .i64 0, .slice none 0 0] 25)) X3))
  clear hm hs X1 X2 X3
  by_cases c : n < 1
  · rw [if_pos c]
    go_enter Try.func21, Try.ntmps21
    go_wp2_with fail
    exact bodyPost_ret (v := .tuple #[.agg #[.int .i64 0, .slice none 0 0], .slice none 0 0, .int .i64 2]) (by simp [results, Try.results21, go_sem, *]) rfl ⟨rfl, HG.out⟩
  · rw [if_neg c]
    have hs2 : (s : Int) < n := by omega
    clear hn
    go_enter Try.func21, Try.ntmps21
    go_wp2_with fail
    generalize ((w.alloc (Obj.cells #[.int .i64 N, .slice ao m cap] 25)).alloc (Obj.cells #[.int .i64 n] 3)).alloc (Obj.cells #[.int .i64 0, .slice none 0 0] 25) = wa at *
    have k0 := kp_cell (show wa.cell? ⟨w.heap.size, 0, none⟩ = some (.int .i64 N) from HX.out.1.cell 0)
    have k1 := kp_cell (show wa.cell? ⟨w.heap.size, 1, none⟩ = some (.slice ao m cap) from HX.out.1.cell 1)
    have k2 := kp_cell (show wa.cell? ⟨w.heap.size + 1, 0, none⟩ = some (.int .i64 n) from HX.out.2.1.cell 0)
    have hne := kp_ne wa
    refine wp_region_kp (by kernel_rfl) (by kernel_rfl) ?_
    repeat (go_big_quiet_step ((rename_i x; exact kp_call x (HF.out _ (HG.out.nextB x.h)))))
    with_reducible refine wpQuiet_nil ?_
    rintro _ ⟨y, rfl⟩
    have X := HX.out.2.2.below y.h
    have r0 : y.w.cell? ⟨w.heap.size + 1 + 1, 0, none⟩ = some (.int .i64 0) := X.cell 0
    have r1 : y.w.cell? ⟨w.heap.size + 1 + 1, 1, none⟩ = some (.slice none 0 0) := X.cell 1
    have f0 := X.frozen 0
    have f1 := X.frozen 1
    have HY := Lib.hid (HG.out.nextB y.h)
    clear k0 k1 k2 hne X
    go_wp2_with fail
    exact bodyPost_ret (v := .tuple #[.agg #[.int .i64 0, .slice none 0 0], .slice none 0 0, .int .i64 12]) (by simp [results, Try.results21, go_sem, *]) rfl
      ⟨rfl, (HY.out.setCell (p := ⟨w.heap.size + 1 + 1, 0, none⟩) (.inr (by simp only; omega)) _).setCell (p := ⟨w.heap.size + 1 + 1, 1, none⟩) (.inr (by simp only; omega)) _⟩

end Go.Proofs.Ytpkhfdcokcchdaa
