/-
  alloc: List, right, Has, Use.
-/
import Derived.Test.YtpkhfdcokcchdaaAlC
import Derived.Test.YtpkhfdcokcchdaaRegT
namespace Go.Proofs.Ytpkhfdcokcchdaa
open Go.RowKit

theorem alist_any (N : Nat) (l : List (Nat × Nat)) (ao : Option Addr) (cap : Nat) (w : World) (h : SetIs w N l ao cap) :
    Calls Try.prog 26 #[.agg #[.int .i64 N, .slice ao l.length cap]] w fun e w' => ∃ ao' cap', e = .returned (.slice ao' l.length cap') ∧ Sl2 w' (.slice ao' l.length cap') (zl l) ∧ Gr [] w w' := by
  have hlen := h.len
  have hhi := h.hi
  have HC := Lib.hid (fun (W : World) (g : Gr [] w W) => (aclone_any ao (zl l) cap W (h.rd.gr0 g) (by rw [zl_len]; omega) (by rw [zl_len]; exact h.cap1) h.none).mono (R' := fun e w' => ∃ ao' cap', e = .returned (.slice ao' l.length cap') ∧ Sl2 w' (.slice ao' l.length cap') (zl l) ∧ Gr [] W w') (fun e w' ⟨v, he, ho, g⟩ => by
    obtain ⟨ao', cap', rfl⟩ := own_form ho
    have hs := own_sl2 ho
    rw [zl_len] at hs he
    exact ⟨ao', cap', he, hs, g⟩))
  rw [zl_len] at HC
  have HG := Lib.hid ((Gr.refl [] w).alloc (Obj.cells #[.int .i64 N, .slice ao l.length cap] 25))
  clear h
  obtain ⟨n, hn⟩ : ∃ n, n = l.length := ⟨_, rfl⟩
  rw [← hn] at HG HC ⊢
  clear hn
  go_enter Try.func26, Try.ntmps26
  go_wp2_with fail
  refine (HC.out _ HG.out).mono ?_
  rintro e w' ⟨ao', cap', rfl, hs, g⟩
  have HF := Lib.hid (And.intro hs (HG.out.next0 g))
  clear hs g
  go_wp2_with fail
  go_ret
  exact ⟨ao', cap', rfl, HF.out.1, HF.out.2⟩

/-- May the extent be, in so many blocks? -/
def okE (N : Nat) (a n : Int) : Prop := 0 ≤ a ∧ 1 ≤ n ∧ n ≤ N ∧ a ≤ N - n
instance (N : Nat) (a n : Int) : Decidable (okE N a n) := by unfold okE; infer_instance
set_option maxHeartbeats 1000000 in
theorem aright_any (N : Nat) (sl : Value) (a n : Int) (w : World) (hN : N ≤ 65536) :
    Calls Try.prog 72 #[.agg #[.int .i64 N, sl], .agg #[.int .i64 a, .int .i64 n]] w fun e w' => e = .returned (.bool (decide (okE N a n))) ∧ Gr [] w w' := by
  have HG := Lib.hid (((Gr.refl [] w).alloc (Obj.cells #[.int .i64 N, sl] 25)).alloc (Obj.cells #[.int .i64 a, .int .i64 n] 35))
  by_cases h1 : 0 ≤ a
  · have d1 : decide (0 ≤ a) = true := by simpa using h1
    by_cases h2 : 1 ≤ n
    · have d2 : decide (1 ≤ n) = true := by simpa using h2
      by_cases h3 : n ≤ (N : Int)
      · have d3 : decide (n ≤ (N : Int)) = true := by simpa using h3
        have hw : IntKind.i64.wrap ((N : Int) - n) = (N : Int) - n := IntWalk.i64_in _ (by omega)
        have HE := Lib.hid (show decide (okE N a n) = decide (a ≤ (N : Int) - n) by rw [decide_eq_decide]; unfold okE; omega)
        go_enter Try.func72, Try.ntmps72
        go_wp2_with fail
        go_ret
        exact ⟨by rw [HE.out]; rfl, HG.out⟩
      · have d3 : decide (n ≤ (N : Int)) = false := by simp; omega
        have HE := Lib.hid (show decide (okE N a n) = false by rw [decide_eq_false_iff_not]; unfold okE; omega)
        go_enter Try.func72, Try.ntmps72
        go_wp2_with fail
        go_ret
        exact ⟨by rw [HE.out]; rfl, HG.out⟩
    · have d2 : decide (1 ≤ n) = false := by simp; omega
      have HE := Lib.hid (show decide (okE N a n) = false by rw [decide_eq_false_iff_not]; unfold okE; omega)
      go_enter Try.func72, Try.ntmps72
      go_wp2_with fail
      go_ret
      exact ⟨by rw [HE.out]; rfl, HG.out⟩
  · have d1 : decide (0 ≤ a) = false := by simp; omega
    have HE := Lib.hid (show decide (okE N a n) = false by rw [decide_eq_false_iff_not]; unfold okE; omega)
    go_enter Try.func72, Try.ntmps72
    go_wp2_with fail
    go_ret
    exact ⟨by rw [HE.out]; rfl, HG.out⟩

theorem fromI_neg (l : List (Nat × Nat)) (b : Int) (hb : b < 0) : fromI l b = 0 := by
  cases l with
  | nil => rfl
  | cons e r => unfold fromI; rw [if_pos (by omega)]
/-- Is a block free? -/
def hasB (l : List (Nat × Nat)) (b : Int) : Bool := match l[fromI l b]? with | some e => decide ((e.1 : Int) ≤ b) | none => false
theorem hasB_nat {N : Nat} {l : List (Nat × Nat)} (h : RunsF 0 N l) (b : Nat) : hasB l (b : Int) = covB l b := by
  rw [has_from h b]
  unfold hasB
  cases l[fromI l (b : Int)]? with
  | none => rfl
  | some e => simp
theorem hasB_neg (l : List (Nat × Nat)) (b : Int) (hb : b < 0) : hasB l b = false := by
  unfold hasB
  cases l[fromI l b]? with
  | none => rfl
  | some e => simp; omega
set_option maxHeartbeats 1000000 in
theorem ahas_any (N : Nat) (l : List (Nat × Nat)) (ao : Option Addr) (cap : Nat) (b : Int) (w : World) (h : SetIs w N l ao cap) :
    Calls Try.prog 25 #[.agg #[.int .i64 N, .slice ao l.length cap], .int .i64 b] w fun e w' => e = .returned (.bool (hasB l b)) ∧ Gr [] w w' := by
  have HG := Lib.hid ((Gr.refl [] w).alloc (Obj.cells #[.int .i64 N, .slice ao l.length cap] 25))
  have HX := Lib.hid (Holds.new w #[.int .i64 N, .slice ao l.length cap] 25)
  have HF := Lib.hid (fun (W : World) (g : Gr [] w W) => afrom_any N l ao cap b W (h.gr0 g))
  have HS := Lib.hid h
  have hle := fromI_le l b
  have hlen := h.len
  have hhi := h.hi
  clear h
  obtain ⟨i, hi⟩ : ∃ i, i = fromI l b := ⟨_, rfl⟩
  obtain ⟨n, hn⟩ : ∃ n, n = l.length := ⟨_, rfl⟩
  have HB := Lib.hid (show hasB l b = match l[i]? with | some e => decide ((e.1 : Int) ≤ b) | none => false by rw [hi]; rfl)
  rw [← hn] at HG HX HF hle hlen ⊢
  rw [← hi] at HF hle
  have HN := Lib.hid hn
  clear hn hi
  by_cases hlt : i < n
  · obtain ⟨e, he⟩ : ∃ e, l[i]? = some e := ⟨_, List.getElem?_eq_getElem (by have := HN.out; omega)⟩
    obtain ⟨b0, o, hao, hb, c1, c2⟩ := HS.out.at he
    have HB2 := Lib.hid (show hasB l b = decide ((e.1 : Int) ≤ b) by rw [HB.out, he])
    have HC := Lib.hid (And.intro hb c1)
    subst hao
    clear c1 c2 he hb
    go_enter Try.func25, Try.ntmps25
    go_wp2_with fail
    refine (HF.out _ HG.out).mono ?_
    rintro e' w' ⟨rfl, g⟩
    have x1 : w'.cell? ⟨w.heap.size, 1, none⟩ = some (.slice (some ⟨b0, o, none⟩) n cap) := (HX.out.gr0 g).cell 1
    have g2 := HG.out.next0 g
    have d1 : w'.cell? ⟨b0, o + i * 2, none⟩ = some (.int .i64 (e.1 : Int)) := by rw [g2.cell0 HC.out.1]; exact HC.out.2
    have HG2 := Lib.hid g2
    clear g g2
    go_wp2_with fail
    go_ret
    exact ⟨by rw [HB2.out]; rfl, HG2.out⟩
  · have hd : decide ((i : Int) < (n : Int)) = false := by simp; omega
    have HB2 := Lib.hid (show hasB l b = false by rw [HB.out, List.getElem?_eq_none (by have := HN.out; omega)])
    go_enter Try.func25, Try.ntmps25
    go_wp2_with fail
    refine (HF.out _ HG.out).mono ?_
    rintro e' w' ⟨rfl, g⟩
    have x1 : w'.cell? ⟨w.heap.size, 1, none⟩ = some (.slice ao n cap) := (HX.out.gr0 g).cell 1
    have HG2 := Lib.hid (HG.out.next0 g)
    clear g
    go_wp2_with fail
    go_ret
    exact ⟨by rw [HB2.out]; rfl, HG2.out⟩

end Go.Proofs.Ytpkhfdcokcchdaa
