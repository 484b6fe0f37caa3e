/-
  Layer 14: the document's answer, Set.
-/
import Derived.Test.YtpkhfdcokcchdaaAlV
namespace Go.Proofs.Ytpkhfdcokcchdaa
open Go.RowKit

theorem infoBo : (Try.prog.info? 4).map (fun i => (i.zero, i.size, i.bytes)) = some (some (.bool false), 1, 1) := by kernel_rfl
set_option maxHeartbeats 1000000 in
theorem rset_arg (N : Nat) (ao : Option Addr) (cap : Nat) (a n : Int) (f : Bool) (w : World) (hN : N ≤ 65536) (hno : ¬ okE N a n) :
    Calls Try.prog 19 #[.slice ao N cap, .int .i64 a, .int .i64 n, .bool f] w fun e w' => e = .returned (.tuple #[.slice none 0 0, .int .i64 2]) ∧ Gr [] w w' := by
  have HG := Lib.hid (Gr.refl [] w)
  by_cases h1 : a < 0
  · have d1 : decide (a < 0) = true := by simpa using h1
    clear hno
    go_enter Try.func19, Try.ntmps19
    go_wp2_with fail
    exact bodyPost_ret (v := .tuple #[.slice none 0 0, .int .i64 2]) (by simp [results, Try.results19, go_sem]) rfl ⟨rfl, HG.out⟩
  · have d1 : decide (a < 0) = false := by simp; omega
    by_cases h2 : n < 1
    · have d2 : decide (n < 1) = true := by simpa using h2
      clear hno
      go_enter Try.func19, Try.ntmps19
      go_wp2_with fail
      exact bodyPost_ret (v := .tuple #[.slice none 0 0, .int .i64 2]) (by simp [results, Try.results19, go_sem]) rfl ⟨rfl, HG.out⟩
    · have d2 : decide (n < 1) = false := by simp; omega
      by_cases h3 : (N : Int) < n
      · have d3 : decide ((N : Int) < n) = true := by simpa using h3
        clear hno
        go_enter Try.func19, Try.ntmps19
        go_wp2_with fail
        exact bodyPost_ret (v := .tuple #[.slice none 0 0, .int .i64 2]) (by simp [results, Try.results19, go_sem]) rfl ⟨rfl, HG.out⟩
      · have d3 : decide ((N : Int) < n) = false := by simp; omega
        have hw : IntKind.i64.wrap ((N : Int) - n) = (N : Int) - n := IntWalk.i64_in _ (by omega)
        have h4 : (N : Int) - n < a := by
          by_cases q : (N : Int) - n < a
          · exact q
          · exact absurd ⟨by omega, by omega, by omega, by omega⟩ hno
        clear hno
        have d4 : decide ((N : Int) - n < a) = true := by simpa using h4
        go_enter Try.func19, Try.ntmps19
        go_wp2_with fail
        exact bodyPost_ret (v := .tuple #[.slice none 0 0, .int .i64 2]) (by simp [results, Try.results19, go_sem]) rfl ⟨rfl, HG.out⟩

set_option maxHeartbeats 4000000 in
set_option maxRecDepth 20000 in
theorem rset_any (N a n : Nat) (m : Nat → Bool) (ao : Option Addr) (cap : Nat) (f : Bool) (w : World) (h : RdM w ao N m) (hN : N ≤ 65536) (hcap : N ≤ cap) (hn : 1 ≤ n) (ha : a + n ≤ N) :
    Calls Try.prog 19 #[.slice ao N cap, .int .i64 a, .int .i64 n, .bool f] w fun e w' =>
      Gr [] w w' ∧ ((∃ b, inR a n b = true ∧ m b = f) ∧ e = .returned (.tuple #[.slice none 0 0, .int .i64 8]) ∨ (∀ b, inR a n b = true → m b = !f) ∧ ∃ g c, e = .returned (.tuple #[.slice (some ⟨g, 0, none⟩) N c, .int .i64 0]) ∧ w'.ownsRow w.heap.size 4 1 (.slice (some ⟨g, 0, none⟩) N c) N (cellsM (setM m a n f) N)) := by
  obtain ⟨i0, hi0, hz0, hz1, hz2⟩ := info_parts infoBo
  obtain ⟨b, o, hao, hb, -⟩ := h a (by omega)
  subst hao
  have HS := Lib.hid h
  have HC := Lib.hid (show ∀ (j : Nat) (u : Value), (cellsM m N)[j]? = some u → w.cell? ((⟨b, o, none⟩ : Addr).add j) = some u from fun j u hj => by
    have hjl := (List.getElem?_eq_some_iff.1 hj).1
    rw [cellsM_len] at hjl
    rw [cellsM_get _ _ _ hjl] at hj
    injection hj with hj
    rw [← hj, show (⟨b, o, none⟩ : Addr).add j = ⟨b, o + j, none⟩ by unfold Addr.add; split <;> simp_all]
    exact (HS.out.at hjl).2)
  have hone : ∀ u ∈ cellsM m N, u.oneCell' = true := by
    intro u hu
    unfold cellsM at hu
    obtain ⟨x, _, rfl⟩ := List.mem_map.1 hu
    rfl
  have HO := Lib.hid hone
  clear h hone
  have d1 : decide ((a : Int) < 0) = false := decide_eq_false (by omega)
  have d2 : decide ((n : Int) < 1) = false := by simp; omega
  have d3 : decide ((N : Int) < (n : Int)) = false := by simp; omega
  have d4 : decide ((N : Int) - (n : Int) < (a : Int)) = false := by simp; omega
  go_enter Try.func19, Try.ntmps19
  go_wp2_with (at_builtin; refine wpList_append_own _ rfl _ _ 29 rfl w.heap.size 4 i0 _ 1 1 Try.underlying29 hi0 hz0 hz1 hz2 rfl (by decide) _ 0 [] rfl (World.ownsRow_nil _ _ _ _) ⟨b, o, none⟩ N cap (cellsM m N) rfl (by rw [cellsM_len, Nat.mul_one]) HC.out HO.out (by unfold maxLen; omega) (by omega) (Nat.le_refl _) ?_)
  intro v1 w1 hown1 hgrow1 _
  try rw [Nat.zero_add] at hown1
  try rw [List.nil_append] at hown1
  obtain ⟨g, c, rfl, hg1, hg2⟩ := hown1.form (by omega)
  have HW := Lib.hid (show w1.ownsRow w.heap.size 4 1 (.slice (some ⟨g, 0, none⟩) N c) N (cellsM (setM m a 0 f) N) ∧ Gr [] w w1 from ⟨by rw [cellsM_congr (fun b _ => setM_zero m a f b)]; exact hown1, by simpa [v4own, Value.ownBlock] using gr_grown hgrow1⟩)
  have HGG := Lib.hid hg1
  clear hown1 hgrow1 hg1 hg2 d1 d2 d3 d4 HC HO
  go_wp2_with fail
  go_loopw [11] (fun i wr => ∃ p k : Nat, k ≤ n ∧ Hid (p = a + k) ∧ p ≤ a + n ∧ i = .int .i64 p ∧ wr.ownsRow w.heap.size 4 1 (.slice (some ⟨g, 0, none⟩) N c) N (cellsM (setM m a k f) N) ∧ Gr [] w wr ∧ Hid (∀ b, inR a k b = true → m b = !f)) (fun i _ => a + n - (intOf i).toNat)
  case atStart => exact ⟨a, 0, by omega, Lib.hid rfl, by omega, rfl, HW.out.1, HW.out.2, Lib.hid (fun b hb => by simp [inR] at hb; omega)⟩
  case round =>
    clear HW
    obtain ⟨p, k, hk, hp, hpn, rfl, ho, G, HM⟩ := hrel
    have HQ := Lib.hid (And.intro ho G)
    clear ho G
    by_cases hlt : p < a + n
    · have hpN : p < N := by omega
      have hlt2 : (p : Int) < (a : Int) + (n : Int) := by omega
      have d1 : wr.cell? ⟨b, o + p, none⟩ = some (.bool (m p)) := by rw [HQ.out.2.cell0 hb]; exact (HS.out.at hpN).2
      have hkn : k < n := by have := hp.out; omega
      by_cases hmf : m p = f
      · rw [hmf] at d1
        have HB := Lib.hid (show ∃ b, inR a n b = true ∧ m b = f from ⟨p, by have := hp.out; unfold inR; simp; omega, hmf⟩)
        clear hmf
        have hff : (f == f) = true := by simp
        go_wp2_with fail
        exact bodyPost_ret (v := .tuple #[.slice none 0 0, .int .i64 8]) (by simp [results, Try.results19, go_sem]) rfl ⟨HQ.out.2, .inl ⟨HB.out, rfl⟩⟩
      · have hnf : m p = !f := by cases h1 : m p <;> cases f <;> simp_all
        rw [hnf] at d1
        have hff : ((!f) == f) = false := by cases f <;> rfl
        have e1 : wr.cell? ⟨g, p, none⟩ = some (.bool (setM m a k f p)) := by
          rw [HQ.out.1.cellAt p (by omega), cellsM_get _ _ _ hpN]
        have e2 : wr.frozen? ⟨g, p, none⟩ = false := HQ.out.1.frozenAt p
        have HB := Lib.hid (show ∀ b, inR a (k + 1) b = true → m b = !f from fun b hb => by
          by_cases q : b = p
          · subst q; exact hnf
          · exact HM.out b (by have := hp.out; simp [inR] at hb ⊢; omega))
        have HR := Lib.hid (show (wr.setCell ⟨g, p, none⟩ (.bool f)).ownsRow w.heap.size 4 1 (.slice (some ⟨g, 0, none⟩) N c) N (cellsM (setM m a (k + 1) f) N) by
          have := (HQ.out.1.stored p (.bool f)).1
          rw [cellsM_set, hp.out, setM_succ, ← hp.out] at this
          exact this)
        clear hmf hnf
        generalize setM m a k f p = u at *
        go_wp2_with fail
        go_roundw
        case rel => exact ⟨p + 1, k + 1, by omega, Lib.hid (by have := hp.out; omega), by omega, by go_num, HR.out, HQ.out.2.setCell (p := ⟨g, p, none⟩) (.inr HGG.out) _, HB⟩
        case measure => simp [intOf]; omega
    · have hlt2 : ¬ (p : Int) < (a : Int) + (n : Int) := by omega
      obtain rfl : k = n := by have := hp.out; omega
      go_wp2_with fail
      exact bodyPost_ret (v := .tuple #[.slice (some ⟨g, 0, none⟩) N c, .int .i64 0]) (by simp [results, Try.results19, go_sem]) rfl ⟨HQ.out.2, .inr ⟨HM.out, _, _, rfl, HQ.out.1⟩⟩

end Go.Proofs.Ytpkhfdcokcchdaa
