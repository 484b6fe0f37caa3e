/-
  alloc: sets in memory; New, Size, Free, List, right, end, from, Has.
-/
import Derived.Test.YtpkhfdcokcchdaaSlE
import Derived.Test.YtpkhfdcokcchdaaAlQ
namespace Go.Proofs.Ytpkhfdcokcchdaa
open Go.RowKit

def zl (l : List (Nat × Nat)) : List (Int × Int) := l.map fun e => ((e.1 : Int), (e.2 : Int))
theorem zl_len (l : List (Nat × Nat)) : (zl l).length = l.length := by simp [zl]
theorem zl_get (l : List (Nat × Nat)) (i : Nat) : (zl l)[i]? = l[i]?.map fun e => ((e.1 : Int), (e.2 : Int)) := by simp [zl]
theorem zl_append (a b : List (Nat × Nat)) : zl (a ++ b) = zl a ++ zl b := by simp [zl]
theorem zl_take (a : List (Nat × Nat)) (n : Nat) : zl (a.take n) = (zl a).take n := by simp [zl, List.map_take]
theorem zl_drop (a : List (Nat × Nat)) (n : Nat) : zl (a.drop n) = (zl a).drop n := by simp [zl, List.map_drop]
/-- The slice from ao on, of room cap, is a set's runs. -/
structure SetIs (w : World) (N : Nat) (l : List (Nat × Nat)) (ao : Option Addr) (cap : Nat) : Prop where
  runs : RunsF 0 N l
  hi : N ≤ 65536
  rd : Rd2 w ao (zl l)
  cap1 : l.length ≤ cap
  cap2 : cap ≤ maxLen
  none : ao = none → cap = 0
theorem SetIs.gr0 {w w' : World} {N : Nat} {l : List (Nat × Nat)} {ao : Option Addr} {cap : Nat} (h : SetIs w N l ao cap) (g : Gr [] w w') : SetIs w' N l ao cap := ⟨h.runs, h.hi, h.rd.gr0 g, h.cap1, h.cap2, h.none⟩
theorem SetIs.nil (w : World) (N : Nat) (h : N ≤ 65536) : SetIs w N [] Option.none 0 := ⟨trivial, h, Rd2.nil _ _, Nat.le_refl _, Nat.zero_le _, fun _ => rfl⟩
theorem SetIs.len {w : World} {N : Nat} {l : List (Nat × Nat)} {ao : Option Addr} {cap : Nat} (h : SetIs w N l ao cap) : l.length ≤ N := by
  have a := len_le h.runs
  have b := sumL_le h.runs
  omega
theorem SetIs.at {w : World} {N : Nat} {l : List (Nat × Nat)} {ao : Option Addr} {cap : Nat} (h : SetIs w N l ao cap) {i : Nat} {e : Nat × Nat} (hi : l[i]? = some e) :
    ∃ b o, ao = some ⟨b, o, Option.none⟩ ∧ b < w.heap.size ∧ w.cell? ⟨b, o + i * 2, Option.none⟩ = some (.int .i64 (e.1 : Int)) ∧ w.cell? ⟨b, o + i * 2 + 1, Option.none⟩ = some (.int .i64 (e.2 : Int)) := by
  have q : (zl l)[i]? = some ((e.1 : Int), (e.2 : Int)) := by rw [zl_get, hi]; rfl
  exact h.rd i _ q
theorem SetIs.mem {w : World} {N : Nat} {l : List (Nat × Nat)} {ao : Option Addr} {cap : Nat} (h : SetIs w N l ao cap) {i : Nat} {e : Nat × Nat} (hi : l[i]? = some e) : 1 ≤ e.2 ∧ e.1 + e.2 ≤ N := (runs_mem h.runs (List.mem_of_getElem? hi)).2
/-- A slice of pairs that a call made, as a set. -/
theorem setOf {w : World} {N : Nat} {l : List (Nat × Nat)} {ao : Option Addr} {cap : Nat} (hr : RunsF 0 N l) (hN : N ≤ 65536) (h : Sl2 w (.slice ao l.length cap) (zl l)) : SetIs w N l ao cap := by
  obtain ⟨ao', cap', e, h1, h2, h3, h4⟩ := h
  injection e with e1 e2 e3
  subst e1 e3
  rw [zl_len] at h2
  exact ⟨hr, hN, h1, h2, h3, h4⟩

theorem aend_any (a n : Int) (w : World) (h : IntKind.i64.wrap (a + n) = a + n) :
    Calls Try.prog 74 #[.agg #[.int .i64 a, .int .i64 n]] w fun e w' => e = .returned (.int .i64 (a + n)) ∧ Gr [] w w' := by
  have HG := Lib.hid ((Gr.refl [] w).alloc (Obj.cells #[.int .i64 a, .int .i64 n] 35))
  go_enter Try.func74, Try.ntmps74
  go_wp2
  go_ret
  exact ⟨rfl, HG.out⟩
theorem aend_bel (a n : Int) (w : World) (h : IntKind.i64.wrap (a + n) = a + n) :
    Calls Try.prog 74 #[.agg #[.int .i64 a, .int .i64 n]] w fun e w' => e = .returned (.int .i64 (a + n)) ∧ Below w.heap.size w w' :=
  (aend_any a n w h).mono fun _ _ q => ⟨q.1, q.2.below0⟩
theorem acmp_any (a n b : Int) (w : World) (h : IntKind.i64.wrap (a + n) = a + n) :
    Calls Try.prog 109 #[.agg #[.int .i64 a, .int .i64 n], .int .i64 b] w fun e w' => e = .returned (.int .i64 (if b < a + n then 1 else -1)) ∧ Gr [] w w' := by
  have HG := Lib.hid ((Gr.refl [] w).alloc (Obj.cells #[.int .i64 a, .int .i64 n] 35))
  have HE := Lib.hid (fun W => aend_any a n W h)
  by_cases c : b < a + n
  · rw [if_pos c]
    go_enter Try.func109, Try.ntmps109
    go_wp2_with (refine (HE.out _).mono ?_; rintro e w' ⟨rfl, g⟩)
    go_ret
    exact ⟨rfl, HG.out.next0 g⟩
  · rw [if_neg c]
    go_enter Try.func109, Try.ntmps109
    go_wp2_with (refine (HE.out _).mono ?_; rintro e w' ⟨rfl, g⟩)
    go_ret
    exact ⟨rfl, HG.out.next0 g⟩

set_option maxHeartbeats 1000000 in
theorem anew_no (n : Int) (w : World) (h : n < 0 ∨ 65536 < n) :
    Calls Try.prog 15 #[.int .i64 n] w fun e w' => e = .returned (.tuple #[.agg #[.int .i64 0, .slice none 0 0], .int .i64 2]) ∧ Gr [] w w' := by
  have HG := Lib.hid ((Gr.refl [] w).alloc (Obj.cells #[.int .i64 0, .slice none 0 0] 25))
  rcases h with h | h
  · go_enter Try.func15, Try.ntmps15
    go_wp2_with fail
    exact bodyPost_ret (v := .tuple #[.agg #[.int .i64 0, .slice none 0 0], .int .i64 2]) (by simp [results, Try.results15, go_sem, *]) rfl ⟨rfl, HG.out⟩
  · have h' : ¬ n < 0 := by omega
    go_enter Try.func15, Try.ntmps15
    go_wp2_with fail
    exact bodyPost_ret (v := .tuple #[.agg #[.int .i64 0, .slice none 0 0], .int .i64 2]) (by simp [results, Try.results15, go_sem, *]) rfl ⟨rfl, HG.out⟩
set_option maxHeartbeats 1000000 in
theorem anew_yes (n : Nat) (w : World) (h : n ≤ 65536) :
    Calls Try.prog 15 #[.int .i64 n] w fun e w' => ∃ ao cap l, e = .returned (.tuple #[.agg #[.int .i64 n, .slice ao l.length cap], .int .i64 0]) ∧ SetIs w' n l ao cap ∧ (∀ b, covB l b = decide (b < n)) ∧ Gr [] w w' := by
  by_cases h0 : n = 0
  · subst h0
    go_enter Try.func15, Try.ntmps15
    go_wp2_with fail
    exact bodyPost_ret (v := .tuple #[.agg #[.int .i64 (0 : Nat), .slice none 0 0], .int .i64 0]) (by simp [results, Try.results15, go_sem, *]) rfl
      ⟨none, 0, [], rfl, SetIs.nil _ _ h, fun b => by simp [covB_nil], ((Gr.refl _ _).alloc _).alloc _⟩
  · have h1 : ((n : Int) > 0) := by omega
    have h2 : ¬ (65536 : Int) < n := by omega
    go_enter Try.func15, Try.ntmps15
    go_wp2_with fail
    refine bodyPost_ret (v := .tuple #[.agg #[.int .i64 n, .slice (some ⟨w.heap.size + 1 + 1, 0, none⟩) 1 1], .int .i64 0]) (by simp [results, Try.results15, go_sem, *]) rfl
      ⟨some ⟨w.heap.size + 1 + 1, 0, none⟩, 1, [(0, n)], rfl, ⟨⟨Nat.le_refl _, by simp only; omega, by simp, trivial⟩, h, ?_, Nat.le_refl _, by decide, fun e => by cases e⟩, fun b => by simp [covB], (((Gr.refl _ _).alloc _).alloc _).alloc _⟩
    have H := Holds.new ((w.alloc (Obj.cells #[Value.int IntKind.i64 n, Value.slice (some { block := w.heap.size + 1 + 1, off := 0 }) 1 1] 25)).alloc (Obj.cells #[Value.int IntKind.i64 n, Value.slice (some { block := w.heap.size + 1 + 1, off := 0 }) 1 1] 25)) #[.int .i64 0, .int .i64 n] 35
    have H2 := holds_rd2 (l := zl [(0, n)]) H
    simpa using H2

theorem asize_any (N : Int) (sl : Value) (w : World) :
    Calls Try.prog 23 #[.agg #[.int .i64 N, sl]] w fun e w' => e = .returned (.int .i64 N) ∧ Gr [] w w' := by
  have HG := Lib.hid ((Gr.refl [] w).alloc (Obj.cells #[.int .i64 N, sl] 25))
  go_enter Try.func23, Try.ntmps23
  go_wp2_with fail
  go_ret
  exact ⟨rfl, HG.out⟩
theorem sumL_take_succ {l : List (Nat × Nat)} {k : Nat} {e : Nat × Nat} (h : l[k]? = some e) : sumL (l.take (k + 1)) = sumL (l.take k) + e.2 := by
  obtain ⟨h1, h2⟩ := List.getElem?_eq_some_iff.1 h
  rw [List.take_succ_eq_append_getElem h1, sumL_append, h2]
  simp [sumL]
theorem sumL_take_le (l : List (Nat × Nat)) (k : Nat) : sumL (l.take k) ≤ sumL l := by
  have : sumL l = sumL (l.take k) + sumL (l.drop k) := by rw [← sumL_append, List.take_append_drop]
  omega
theorem SetIs.sum {w : World} {N : Nat} {l : List (Nat × Nat)} {ao : Option Addr} {cap : Nat} (h : SetIs w N l ao cap) (k : Nat) : sumL (l.take k) ≤ 65536 := by
  have a := sumL_take_le l k
  have b := sumL_le h.runs
  have c := h.hi
  omega

set_option maxHeartbeats 1000000 in
theorem afree_any (N : Nat) (l : List (Nat × Nat)) (ao : Option Addr) (cap : Nat) (w : World) (h : SetIs w N l ao cap) :
    Calls Try.prog 24 #[.agg #[.int .i64 N, .slice ao l.length cap]] w fun e w' => e = .returned (.int .i64 (sumL l)) ∧ Gr [] w w' := by
  have HG := Lib.hid ((Gr.refl [] w).alloc (Obj.cells #[.int .i64 N, .slice ao l.length cap] 25))
  have HS := Lib.hid h
  have hlen := h.len
  have hhi := h.hi
  clear h
  obtain ⟨n, hn⟩ : ∃ n, n = l.length := ⟨_, rfl⟩
  rw [← hn] at hlen HG ⊢
  have HN := Lib.hid hn
  clear hn
  go_enter Try.func24, Try.ntmps24
  go_wp2_with fail
  generalize w.alloc (Obj.cells #[.int .i64 N, .slice ao n cap] 25) = wa at *
  go_loopw [3, 9] (fun s i wr => ∃ k : Nat, k ≤ n ∧ s = .int .i64 (sumL (l.take k) : Nat) ∧ i = .int .i64 k ∧ Gr [] w wr) (fun _ i _ => n - (intOf i).toNat)
  case atStart => exact ⟨0, by omega, by simp [sumL], rfl, HG.out⟩
  case round =>
    obtain ⟨k, hk, rfl, rfl, G⟩ := hrel
    by_cases hlt : k < n
    · obtain ⟨e, he⟩ : ∃ e, l[k]? = some e := ⟨_, List.getElem?_eq_getElem (by have := HN.out; omega)⟩
      obtain ⟨b, o, hao, hb, c1, c2⟩ := HS.out.at he
      have m := HS.out.mem he
      have q := HS.out.sum k
      have HE := Lib.hid (sumL_take_succ he)
      subst hao
      have d1 : wr.cell? ⟨b, o + k * 2, none⟩ = some (.int .i64 (e.1 : Int)) := by rw [G.cell0 hb]; exact c1
      have d2 : wr.cell? ⟨b, o + k * 2 + 1, none⟩ = some (.int .i64 (e.2 : Int)) := by rw [G.cell0 hb]; exact c2
      have HG2 := Lib.hid (G.alloc (Obj.cells #[.int .i64 e.1, .int .i64 e.2] 35))
      clear c1 c2 G he
      go_wp2
      go_roundw
      case rel => exact ⟨k + 1, by omega, by rw [HE.out]; go_num, by go_num, HG2.out⟩
      case measure => simp [intOf]; omega
    · obtain rfl : k = n := by omega
      have HE := Lib.hid (show l.take k = l by rw [HN.out, List.take_length])
      have HG2 := Lib.hid G
      clear G
      go_wp2
      go_ret
      exact ⟨by rw [HE.out]; rfl, HG2.out⟩

/-! ### The search -/
set_option maxHeartbeats 2000000 in
theorem abin_any (N : Nat) (l : List (Nat × Nat)) (ao : Option Addr) (cap : Nat) (x : Int) (w : World) (h : SetIs w N l ao cap) :
    Calls Try.prog 108 #[.slice ao l.length cap, .int .i64 x, .func (.func 109) #[] #[]] w fun e w' => (∃ b, e = .returned (.tuple #[.int .i64 (fromI l x), .bool b])) ∧ Gr [] w w' := by
  have HS := Lib.hid h
  have hlen := h.len
  have hhi := h.hi
  clear h
  obtain ⟨n, hn⟩ : ∃ n, n = l.length := ⟨_, rfl⟩
  rw [← hn] at hlen ⊢
  have HN := Lib.hid hn
  clear hn
  go_enter Try.func108, Try.ntmps108
  go_wp2_with fail
  go_loopw [9, 10] (fun s t wr => ∃ i j : Nat, i ≤ j ∧ j ≤ n ∧ s = .int .i64 i ∧ t = .int .i64 j ∧ Gr [] w wr ∧ (∀ k e, k < i → l[k]? = some e → ((e.1 + e.2 : Nat) : Int) ≤ x) ∧ (∀ k e, j ≤ k → l[k]? = some e → x < ((e.1 + e.2 : Nat) : Int))) (fun s t _ => (intOf t).toNat - (intOf s).toNat)
  case atStart => exact ⟨0, n, by omega, by omega, rfl, rfl, Gr.refl _ _, fun k e hk => by omega, fun k e hk hl => by have := (List.getElem?_eq_some_iff.1 hl).1; have := HN.out; omega⟩
  case round =>
    obtain ⟨i, j, hij, hjn, rfl, rfl, G, L1, L2⟩ := hrel
    have HL := Lib.hid (And.intro L1 L2)
    clear L1 L2
    by_cases hlt : i < j
    · obtain ⟨m, hm⟩ : ∃ m, m = (i + j) / 2 := ⟨_, rfl⟩
      obtain ⟨e, he⟩ : ∃ e, l[m]? = some e := ⟨_, List.getElem?_eq_getElem (by have := HN.out; omega)⟩
      obtain ⟨b, o, hao, hb, c1, c2⟩ := HS.out.at he
      have q := HS.out.mem he
      subst hao
      have d1 : wr.cell? ⟨b, o + m * 2, none⟩ = some (.int .i64 (e.1 : Int)) := by rw [G.cell0 hb]; exact c1
      have d2 : wr.cell? ⟨b, o + m * 2 + 1, none⟩ = some (.int .i64 (e.2 : Int)) := by rw [G.cell0 hb]; exact c2
      have HC := Lib.hid (fun W => acmp_any (e.1 : Int) (e.2 : Int) x W (by rw [IntWalk.i64_in _ (by omega)]))
      have hm1 : i ≤ m := by omega
      have hm2 : m < j := by omega
      have em : ((i : Int) + (j : Int)) / 2 = (m : Int) := by omega
      have HX := Lib.hid (And.intro HS.out.runs he)
      have HG := Lib.hid G
      clear c1 c2 hm he G
      by_cases c : x < (e.1 : Int) + (e.2 : Int)
      · have HC2 := Lib.hid (fun W => by have := HC.out W; rw [if_pos c] at this; exact this)
        have HL2 := Lib.hid (show ∀ k e', m ≤ k → l[k]? = some e' → x < ((e'.1 + e'.2 : Nat) : Int) from fun k e' hk hl => by
          rcases Nat.lt_or_eq_of_le hk with q | q
          · have := ends_lt HX.out.1 q HX.out.2 hl
            omega
          · subst q
            rw [HX.out.2] at hl
            injection hl with hl
            subst hl
            omega)
        clear c HC
        go_wp2_with fail
        refine (HC2.out _).mono ?_
        rintro e' w' ⟨rfl, g⟩
        have HG2 := Lib.hid (HG.out.next0 g)
        clear g
        go_wp2
        go_roundw
        case rel => exact ⟨i, m, by omega, by omega, rfl, rfl, HG2.out, HL.out.1, HL2.out⟩
        case measure => simp [intOf]; omega
      · have HC2 := Lib.hid (fun W => by have := HC.out W; rw [if_neg c] at this; exact this)
        have HL2 := Lib.hid (show ∀ k e', k < m + 1 → l[k]? = some e' → ((e'.1 + e'.2 : Nat) : Int) ≤ x from fun k e' hk hl => by
          rcases Nat.lt_or_eq_of_le (Nat.le_of_lt_succ hk) with q | q
          · have := ends_lt HX.out.1 q hl HX.out.2
            omega
          · subst q
            rw [HX.out.2] at hl
            injection hl with hl
            subst hl
            omega)
        clear c HC
        go_wp2_with fail
        refine (HC2.out _).mono ?_
        rintro e' w' ⟨rfl, g⟩
        have HG2 := Lib.hid (HG.out.next0 g)
        clear g
        go_wp2
        go_roundw
        case rel => exact ⟨m + 1, j, by omega, by omega, by go_num, rfl, HG2.out, HL2.out, HL.out.2⟩
        case measure => simp [intOf]; omega
    · obtain rfl : i = j := by omega
      have HI := Lib.hid (show i = fromI l x from fromI_is (by have := HN.out; omega) HL.out.1 (fun e he => HL.out.2 i e (Nat.le_refl _) he))
      have HG := Lib.hid G
      clear G
      by_cases c : i < n
      · obtain ⟨e, he⟩ : ∃ e, l[i]? = some e := ⟨_, List.getElem?_eq_getElem (by have := HN.out; omega)⟩
        obtain ⟨b, o, hao, hb, c1, c2⟩ := HS.out.at he
        have q := HS.out.mem he
        subst hao
        have d1 : wr.cell? ⟨b, o + i * 2, none⟩ = some (.int .i64 (e.1 : Int)) := by rw [HG.out.cell0 hb]; exact c1
        have d2 : wr.cell? ⟨b, o + i * 2 + 1, none⟩ = some (.int .i64 (e.2 : Int)) := by rw [HG.out.cell0 hb]; exact c2
        have HC := Lib.hid (fun W => acmp_any (e.1 : Int) (e.2 : Int) x W (by rw [IntWalk.i64_in _ (by omega)]))
        have hx := HL.out.2 i e (Nat.le_refl _) he
        have HC2 := Lib.hid (fun W => by have := HC.out W; rw [if_pos (by omega)] at this; exact this)
        clear c1 c2 he hx HC
        go_wp2_with fail
        refine (HC2.out _).mono ?_
        rintro e' w' ⟨rfl, g⟩
        have HG2 := Lib.hid (HG.out.next0 g)
        clear g
        go_wp2
        go_ret2
        exact ⟨⟨false, by rw [← HI.out]; rfl⟩, HG2.out⟩
      · have hd : decide ((i : Int) < (n : Int)) = false := by simp; omega
        go_wp2_with fail
        go_ret2
        exact ⟨⟨false, by rw [← HI.out]; rfl⟩, HG.out⟩

theorem afrom_any (N : Nat) (l : List (Nat × Nat)) (ao : Option Addr) (cap : Nat) (x : Int) (w : World) (h : SetIs w N l ao cap) :
    Calls Try.prog 73 #[.agg #[.int .i64 N, .slice ao l.length cap], .int .i64 x] w fun e w' => e = .returned (.int .i64 (fromI l x)) ∧ Gr [] w w' := by
  have HG := Lib.hid ((Gr.refl [] w).alloc (Obj.cells #[.int .i64 N, .slice ao l.length cap] 25))
  have HB := Lib.hid (fun (W : World) (g : Gr [] w W) => abin_any N l ao cap x W (h.gr0 g))
  clear h
  obtain ⟨n, hn⟩ : ∃ n, n = l.length := ⟨_, rfl⟩
  rw [← hn] at HG HB ⊢
  clear hn
  go_enter Try.func73, Try.ntmps73
  go_wp2_with fail
  refine (HB.out _ HG.out).mono ?_
  rintro e' w' ⟨⟨b, rfl⟩, g⟩
  have HG2 := Lib.hid (HG.out.next0 g)
  clear g
  go_wp2_with fail
  go_ret
  exact ⟨rfl, HG2.out⟩

end Go.Proofs.Ytpkhfdcokcchdaa
