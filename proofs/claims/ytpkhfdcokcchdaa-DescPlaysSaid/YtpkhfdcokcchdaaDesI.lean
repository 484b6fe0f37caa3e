/-
  The document's list of what is open, in memory: Find.
-/
import Derived.Test.YtpkhfdcokcchdaaDesE
import Derived.Test.YtpkhfdcokcchdaaDeqP
namespace Go.Proofs.Ytpkhfdcokcchdaa
open Go.RowKit

theorem infoOpn : (Try.prog.info? 127).map (fun i => (i.zero, i.size, i.bytes)) = some (some (.agg #[.int .i64 0, .int .i64 0, .int .i64 0, .int .i64 0, .int .i64 0]), 5, 40) := by kernel_rfl
def five (x : OpenR) : List Value := [.int .i64 x.c, .int .i64 x.f, .int .i64 x.n, .int .i64 x.g, .int .i64 x.a]
def cells5 : List OpenR → List Value
  | [] => []
  | x :: r => .int .i64 x.c :: .int .i64 x.f :: .int .i64 x.n :: .int .i64 x.g :: .int .i64 x.a :: cells5 r
theorem cells5_append (A B : List OpenR) : cells5 (A ++ B) = cells5 A ++ cells5 B := by
  induction A with
  | nil => rfl
  | cons x r ih => simp only [List.cons_append, cells5, ih]
theorem cells5_len (L : List OpenR) : (cells5 L).length = L.length * 5 := by
  induction L with
  | nil => rfl
  | cons x r ih => simp only [cells5, List.length_cons, ih]; omega
theorem cells5_get (L : List OpenR) (i : Nat) (x : OpenR) (h : L[i]? = some x) : (cells5 L)[i * 5]? = some (.int .i64 x.c) ∧ (cells5 L)[i * 5 + 1]? = some (.int .i64 x.f) ∧ (cells5 L)[i * 5 + 2]? = some (.int .i64 x.n) ∧ (cells5 L)[i * 5 + 3]? = some (.int .i64 x.g) ∧ (cells5 L)[i * 5 + 4]? = some (.int .i64 x.a) := by
  induction L generalizing i with
  | nil => cases h
  | cons y r ih =>
    cases i with
    | zero => simp at h; subst h; exact ⟨rfl, rfl, rfl, rfl, rfl⟩
    | succ i =>
      have := ih i (by simpa using h)
      rw [show (i + 1) * 5 = i * 5 + 5 by omega]
      exact this
theorem cells5_set (L : List OpenR) (k : Nat) (x : OpenR) (a : Int) (h : L[k]? = some x) : (cells5 L).set (k * 5 + 4) (.int .i64 a) = cells5 (L.set k { x with a := a }) := by
  induction L generalizing k with
  | nil => cases h
  | cons y r ih =>
    cases k with
    | zero => simp at h; subst h; rfl
    | succ k =>
      have := ih k (by simpa using h)
      rw [show (k + 1) * 5 + 4 = (k * 5 + 4) + 5 by omega]
      simp only [cells5, List.set_cons_succ, this]
theorem five_one (x : OpenR) : ∀ u ∈ five x, u.oneCell' = true := by
  intro u hu
  simp [five] at hu
  rcases hu with rfl | rfl | rfl | rfl | rfl <;> rfl
theorem cells5_one (x : OpenR) : cells5 [x] = five x := rfl
theorem own_sh {w : World} {base : Nat} {e : TypeId} {size n : Nat} {v : Value} {xs : List Value} (h : w.ownsRow base e size v n xs) : ∃ ao cap, v = .slice ao n cap ∧ n ≤ cap ∧ (0 < n → ∃ g, ao = some ⟨g, 0, none⟩) := by
  rcases h.2 with ⟨rfl, rfl⟩ | ⟨g, cap, cur, rfl, _, _, h1, _⟩
  · exact ⟨_, _, rfl, Nat.le_refl _, fun q => by omega⟩
  · exact ⟨_, _, rfl, h1, fun _ => ⟨g, rfl⟩⟩
/-- The tables in memory: the head at bm, the list's row behind it. -/
structure RTab (W : World) (bm n : Nat) (L : List OpenR) (v : Value) : Prop where
  head : Holds W bm #[.int .i64 n, v] 114
  row : W.ownsRow (bm + 1) 127 5 v L.length (cells5 L)
theorem RTab.gr {W W' : World} {bm n : Nat} {L : List OpenR} {v : Value} {bs : List Nat} (h : RTab W bm n L v) (g : Gr bs W W') (h1 : bm ∉ bs) (h2 : ∀ b, v.ownBlock = some b → b ∉ bs) : RTab W' bm n L v := ⟨h.head.gr g h1, own_gr h.row g h2⟩
theorem RTab.gr0 {W W' : World} {bm n : Nat} {L : List OpenR} {v : Value} (h : RTab W bm n L v) (g : Gr [] W W') : RTab W' bm n L v := h.gr g (by simp) (fun _ _ => by simp)
theorem RTab.at {W : World} {bm n : Nat} {L : List OpenR} {v : Value} (h : RTab W bm n L v) {i : Nat} {x : OpenR} (hi : L[i]? = some x) :
    ∃ g cap, v = .slice (some ⟨g, 0, none⟩) L.length cap ∧ L.length ≤ cap ∧ bm < g ∧ g < W.heap.size ∧ W.cell? ⟨g, i * 5, none⟩ = some (.int .i64 x.c) ∧ W.cell? ⟨g, i * 5 + 1, none⟩ = some (.int .i64 x.f) ∧ W.cell? ⟨g, i * 5 + 2, none⟩ = some (.int .i64 x.n) ∧ W.cell? ⟨g, i * 5 + 3, none⟩ = some (.int .i64 x.g) ∧ W.cell? ⟨g, i * 5 + 4, none⟩ = some (.int .i64 x.a) := by
  have hlt := (List.getElem?_eq_some_iff.1 hi).1
  obtain ⟨ao, cap, hv, hc, hg⟩ := own_sh h.row
  obtain ⟨g, hg⟩ := hg (by omega)
  subst hg
  have hr := h.row
  rw [hv] at hr
  obtain ⟨q0, q1, q2, q3, q4⟩ := cells5_get L i x hi
  have hb := hr.lt g rfl
  exact ⟨g, cap, hv, hc, by omega, hb.2, by rw [hr.cellAt _ (by omega)]; exact q0, by rw [hr.cellAt _ (by omega)]; exact q1, by rw [hr.cellAt _ (by omega)]; exact q2, by rw [hr.cellAt _ (by omega)]; exact q3, by rw [hr.cellAt _ (by omega)]; exact q4⟩

theorem rfind_arg (bm n : Nat) (L : List OpenR) (v : Value) (c f : Int) (w : World) (h : RTab w bm n L v) (hc : c < 0 ∨ n ≤ c) :
    Calls Try.prog 64 #[.pointer (some ⟨bm, 0, none⟩), .int .i64 c, .int .i64 f] w fun e w' => e = .returned (.tuple #[.int .i64 0, .int .i64 2]) ∧ Gr [] w w' := by
  have c0 := h.head.cell 0
  have HG := Lib.hid (Gr.refl [] w)
  clear h
  by_cases h0 : c < 0
  · have d0 : decide (c < 0) = true := by simpa using h0
    clear hc
    go_enter Try.func64, Try.ntmps64
    go_wp2_with fail
    exact bodyPost_ret (v := .tuple #[.int .i64 0, .int .i64 2]) (by simp [results, Try.results64, go_sem]) rfl ⟨rfl, HG.out⟩
  · have d0 : decide (c < 0) = false := by simpa using h0
    have h1 : (n : Int) ≤ c := by omega
    have d1 : decide ((n : Int) ≤ c) = true := by simpa using h1
    clear hc
    go_enter Try.func64, Try.ntmps64
    go_wp2_with fail
    exact bodyPost_ret (v := .tuple #[.int .i64 0, .int .i64 2]) (by simp [results, Try.results64, go_sem]) rfl ⟨rfl, HG.out⟩

set_option maxHeartbeats 4000000 in
set_option maxRecDepth 20000 in
theorem rfind_in (bm n : Nat) (L : List OpenR) (v : Value) (c f : Int) (w : World) (h : RTab w bm n L v) (hc : 0 ≤ c ∧ c < n) (hL : L.length ≤ 65536) :
    Calls Try.prog 64 #[.pointer (some ⟨bm, 0, none⟩), .int .i64 c, .int .i64 f] w fun e w' => Gr [] w w' ∧
      ((∃ k : Nat, findR L c f = some k ∧ e = .returned (.tuple #[.int .i64 k, .int .i64 0])) ∨ findR L c f = none ∧ e = .returned (.tuple #[.int .i64 0, .int .i64 19])) := by
  have HR := Lib.hid h
  obtain ⟨ao, cap, hv, hcap, -⟩ := own_sh h.row
  subst hv
  have c0 := h.head.cell 0
  have c1 := h.head.cell 1
  clear h
  have d0 : decide (c < 0) = false := by simp; omega
  have h1 : ¬ (n : Int) ≤ c := by omega
  have d1 : decide ((n : Int) ≤ c) = false := by simpa using h1
  obtain ⟨N, hN⟩ : ∃ N, N = L.length := ⟨_, rfl⟩
  rw [← hN] at hL hcap c1 HR
  have HN := Lib.hid hN
  clear hN hc
  go_enter Try.func64, Try.ntmps64
  go_wp2_with fail
  go_loopw [8] (fun i wr => ∃ k : Nat, k ≤ N ∧ i = .int .i64 k ∧ w = wr ∧ Hid (∀ j y, j < k → L[j]? = some y → ¬ (y.c = c ∧ y.f = f))) (fun i _ => N - (intOf i).toNat)
  case atStart => exact ⟨0, by omega, rfl, rfl, Lib.hid (fun j y hj => by omega)⟩
  case round =>
    obtain ⟨k, hk, rfl, rfl, HB⟩ := hrel
    by_cases hkN : k < N
    · have hkN2 : (k : Int) < (N : Int) := by omega
      obtain ⟨x, hx⟩ : ∃ x, L[k]? = some x := ⟨_, List.getElem?_eq_getElem (by have := HN.out; omega)⟩
      obtain ⟨g, cp, hv, hcp, hg1, hg2, x0, x1, x2, x3, x4⟩ := HR.out.at hx
      injection hv with e1 e2 e3
      subst e1
      have HXX := Lib.hid hx
      clear hx x2 x3 x4 e2 e3 hcp
      by_cases e1 : x.c = c
      · have b1 : (x.c == c) = true := by simpa using e1
        have b1d : decide (x.c = c) = true := by simpa using e1
        by_cases e2 : x.f = f
        · have b2 : (x.f == f) = true := by simpa using e2
          have b2d : decide (x.f = f) = true := by simpa using e2
          have HF := Lib.hid (findR_is HXX.out e1 e2 HB.out)
          clear e1 e2
          go_wp2_with fail
          exact bodyPost_ret (v := .tuple #[.int .i64 k, .int .i64 0]) (by simp [results, Try.results64, go_sem]) rfl ⟨Gr.refl _ _, .inl ⟨k, HF.out, rfl⟩⟩
        · have b2 : (x.f == f) = false := by simpa using e2
          have b2d : decide (x.f = f) = false := by simpa using e2
          have HF := Lib.hid (show ∀ j y, j < k + 1 → L[j]? = some y → ¬ (y.c = c ∧ y.f = f) from fun j y hj hy => by
            by_cases q : j = k
            · subst q; rw [HXX.out] at hy; injection hy with hy; subst hy; exact fun z => e2 z.2
            · exact HB.out j y (by omega) hy)
          clear e1 e2
          go_wp2_with fail
          go_roundw
          case rel => exact ⟨k + 1, by omega, by go_num, by first | rfl | trivial, HF⟩
          case measure => simp [intOf]; omega
      · have b1 : (x.c == c) = false := by simpa using e1
        have b1d : decide (x.c = c) = false := by simpa using e1
        have HF := Lib.hid (show ∀ j y, j < k + 1 → L[j]? = some y → ¬ (y.c = c ∧ y.f = f) from fun j y hj hy => by
          by_cases q : j = k
          · subst q; rw [HXX.out] at hy; injection hy with hy; subst hy; exact fun z => e1 z.1
          · exact HB.out j y (by omega) hy)
        clear e1
        go_wp2_with fail
        go_roundw
        case rel => exact ⟨k + 1, by omega, by go_num, by first | rfl | trivial, HF⟩
        case measure => simp [intOf]; omega
    · obtain rfl : k = N := by omega
      have HF := Lib.hid (findR_is_none (L := L) (c := c) (f := f) (fun j y hy => HB.out j y (by have := (List.getElem?_eq_some_iff.1 hy).1; have := HN.out; omega) hy))
      go_wp2_with fail
      exact bodyPost_ret (v := .tuple #[.int .i64 0, .int .i64 19]) (by simp [results, Try.results64, go_sem]) rfl ⟨Gr.refl _ _, .inr ⟨HF.out, rfl⟩⟩
theorem rfind_some (bm n k : Nat) (L : List OpenR) (v : Value) (c f : Int) (w : World) (h : RTab w bm n L v) (hc : 0 ≤ c ∧ c < n) (hL : L.length ≤ 65536) (hk : findR L c f = some k) :
    Calls Try.prog 64 #[.pointer (some ⟨bm, 0, none⟩), .int .i64 c, .int .i64 f] w fun e w' => e = .returned (.tuple #[.int .i64 k, .int .i64 0]) ∧ Gr [] w w' := by
  refine (rfind_in bm n L v c f w h hc hL).mono ?_
  rintro e w' ⟨g, ⟨j, q, rfl⟩ | ⟨q, rfl⟩⟩
  · rw [hk] at q; injection q with q; subst q; exact ⟨rfl, g⟩
  · rw [hk] at q; cases q
theorem rfind_none (bm n : Nat) (L : List OpenR) (v : Value) (c f : Int) (w : World) (h : RTab w bm n L v) (hc : 0 ≤ c ∧ c < n) (hL : L.length ≤ 65536) (hk : findR L c f = none) :
    Calls Try.prog 64 #[.pointer (some ⟨bm, 0, none⟩), .int .i64 c, .int .i64 f] w fun e w' => e = .returned (.tuple #[.int .i64 0, .int .i64 19]) ∧ Gr [] w w' := by
  refine (rfind_in bm n L v c f w h hc hL).mono ?_
  rintro e w' ⟨g, ⟨j, q, rfl⟩ | ⟨q, rfl⟩⟩
  · rw [hk] at q; cases q
  · exact ⟨rfl, g⟩

end Go.Proofs.Ytpkhfdcokcchdaa
