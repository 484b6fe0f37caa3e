/-
  Layers 17 and 18: may it be a name: what the program says (strings.ContainsAny of any bytes, for a zero byte and a slash), and the document.
-/
import Derived.Test.YtnmenihahgggmaaPaL
import Derived.Laws.RangeString
import Derived.Laws.Strings3
import Derived.Deep.LoopGhost
import Derived.Lib.Hide
import Derived.WalkMore
namespace Go.Proofs.Ytnmenihahgggmaa
open Go.RowKit Go.Shelf

theorem decode_skip (s : ByteArray) (i : Nat) (h : i < s.size) : i + (Utf8.decode s i).2 ≤ s.size ∧ ∀ k, 1 ≤ k → k < (Utf8.decode s i).2 → 128 ≤ (s.get! (i + k)).toNat := by
  have hc : ∀ k, (decide (i + k < s.size) && ((s.get! (i + k)).toNat / 64 == 2)) = true → i + k < s.size ∧ 128 ≤ (s.get! (i + k)).toNat := fun k e => by
    simp at e
    omega
  have one : ∀ c : Nat, i + (c, 1).2 ≤ s.size ∧ ∀ k, 1 ≤ k → k < (c, 1).2 → 128 ≤ (s.get! (i + k)).toNat := fun c => ⟨h, fun k h1 h2 => absurd h2 (by show ¬ k < 1; omega)⟩
  unfold Utf8.decode
  dsimp only
  split
  · exact one _
  · split
    · rename_i q
      rw [Bool.and_eq_true] at q
      split
      · refine ⟨?_, fun k h1 h2 => ?_⟩
        · have := (hc 1 q.2).1; show i + 2 ≤ _; omega
        · have h2' : k < 2 := h2
          obtain rfl : k = 1 := by omega
          exact (hc 1 q.2).2
      · exact one _
    · split
      · rename_i q
        rw [Bool.and_eq_true, Bool.and_eq_true] at q
        split
        · refine ⟨?_, fun k h1 h2 => ?_⟩
          · have := (hc 2 q.2).1; show i + 3 ≤ _; omega
          · have h2' : k < 3 := h2
            rcases (show k = 1 ∨ k = 2 by omega) with rfl | rfl
            · exact (hc 1 q.1.2).2
            · exact (hc 2 q.2).2
        · exact one _
      · split
        · rename_i q
          rw [Bool.and_eq_true, Bool.and_eq_true, Bool.and_eq_true] at q
          split
          · refine ⟨?_, fun k h1 h2 => ?_⟩
            · have := (hc 3 q.2).1; show i + 4 ≤ _; omega
            · have h2' : k < 4 := h2
              rcases (show k = 1 ∨ k = 2 ∨ k = 3 by omega) with rfl | rfl | rfl
              · exact (hc 1 q.1.1.2).2
              · exact (hc 2 q.1.2).2
              · exact (hc 3 q.2).2
          · exact one _
        · exact one _

theorem valid_at (r : Int) (w : World) : Calls Try.prog 48 #[.int .i32 r] w fun e w' => e = .returned (.bool (Utf8.valid r)) ∧ w' = w := by
  rw [validRune_eq]
  unfold validRune
  by_cases h0 : 0 ≤ r
  · by_cases h1 : r < 55296
    · rw [decide_eq_true (.inl ⟨h0, h1⟩)]
      go_enter Try.func48, Try.ntmps48
      go_wp2
      go_ret
      exact ⟨rfl, rfl⟩
    · by_cases h2 : 57343 < r
      · by_cases h3 : r ≤ 1114111
        · rw [decide_eq_true (.inr ⟨h2, h3⟩)]
          go_enter Try.func48, Try.ntmps48
          go_wp2
          go_ret
          exact ⟨rfl, rfl⟩
        · rw [decide_eq_false (by omega)]
          go_enter Try.func48, Try.ntmps48
          go_wp2
          go_ret
          exact ⟨rfl, rfl⟩
      · rw [decide_eq_false (by omega)]
        go_enter Try.func48, Try.ntmps48
        go_wp2
        go_ret
        exact ⟨rfl, rfl⟩
  · rw [decide_eq_false (by omega)]
    go_enter Try.func48, Try.ntmps48
    go_wp2
    go_ret
    exact ⟨rfl, rfl⟩
/-- A reader of a string, wherever it lies. -/
def itr (w : World) (k : Nat) (s : ByteArray) (pos : Nat) : World := { w with heap := w.heap.setIfInBounds k (.stringIter s pos) }
theorem run_next_at {P : Program} (w : World) (k : Nat) (s : ByteArray) (pos : Nat) (ty : TypeId) (hk : w.heap[k]? = some (.stringIter s pos)) (h : pos < s.size) :
    (Instr.next (.pointer (some ⟨k, 0, none⟩)) true ty).run P w = .ok (.tuple #[.bool true, .int .i64 pos, .int .i32 (Utf8.decode s pos).1]) (itr w k s (pos + (Utf8.decode s pos).2)) := by
  simp only [Instr.next, getObj, setObj, Sem.run_bind, Sem.run, hk, Result.andThen, h, if_true]
  simp [goInt, itr]
theorem run_next_stop {P : Program} (w : World) (k : Nat) (s : ByteArray) (pos : Nat) (ty : TypeId) (hk : w.heap[k]? = some (.stringIter s pos)) (h : ¬ pos < s.size) :
    (Instr.next (.pointer (some ⟨k, 0, none⟩)) true ty).run P w = .ok (.tuple #[.bool false]) w := by
  simp [Instr.next, getObj, Sem.run, hk, h]
theorem itr_heap {w : World} {k : Nat} (s : ByteArray) (pos : Nat) (h : k < w.heap.size) : (itr w k s pos).heap[k]? = some (.stringIter s pos) := by
  simp [itr, h]
theorem below_itr {B : Nat} {a w : World} (h : Below B a w) {k : Nat} (hk : B ≤ k) (s : ByteArray) (pos : Nat) : Below B a (itr w k s pos) :=
  ⟨h.os, h.tape, h.output, by simpa [Go.Proofs.Ytnmenihahgggmaa.itr] using h.size, fun j hj => by
    rw [← h.block j hj]
    simp only [Go.Proofs.Ytnmenihahgggmaa.itr]
    rw [Array.getElem?_setIfInBounds_ne (by omega)]⟩

set_option maxHeartbeats 4000000 in
set_option maxRecDepth 1000000 in
/-- A rune that is no byte is not among a zero byte and a slash. -/
theorem run_hi (r : Int) (w : World) (h0 : 128 ≤ r) (h1 : r ≤ 2147483647) : Calls Try.prog 37 #[.string (bsL [0, 47]), .int .i32 r] w fun e w' => e = .returned (.int .i64 (-1)) ∧ Below w.heap.size w w' := by
  have n0 : ¬ r < 128 := by omega
  by_cases hfd : r = 65533
  · subst hfd
    go_enter Try.func37, Try.ntmps37
    go_wp2
    go_loopg [5, 6] 2 (fun g _ _ wx => ∃ i : Nat, i + g = 2 ∧ wx = w.iter (bsL [0, 47]) i)
    case atStart => exact ⟨0, rfl, rfl⟩
    case round =>
      obtain ⟨i, hig, rfl⟩ := hrel
      cases gk with
      | zero =>
        obtain rfl : i = 2 := by omega
        have hnx := fun ty => run_next_end (P := Try.prog) w (bsL [0, 47]) 2 ty (by decide)
        go_wp2
        go_ret
        exact ⟨rfl, (Below.refl _ w).alloc (Nat.le_refl _) _⟩
      | succ g =>
        rcases (show i = 0 ∨ i = 1 by omega) with rfl | rfl
        · have hnx := fun ty => run_next_ascii (P := Try.prog) w (bsL [0, 47]) 0 ty (by decide) (by decide)
          have e0 : (((bsL [0, 47])[0]'(by decide)).toNat : Int) = 0 := by rfl
          simp only [e0] at hnx
          go_wp2
          go_roundg g
          case measure => omega
          case rel => exact ⟨1, by omega, rfl⟩
        · have hnx := fun ty => run_next_ascii (P := Try.prog) w (bsL [0, 47]) 1 ty (by decide) (by decide)
          have e0 : (((bsL [0, 47])[1]'(by decide)).toNat : Int) = 47 := by rfl
          simp only [e0] at hnx
          go_wp2
          go_roundg g
          case measure => omega
          case rel => exact ⟨2, by omega, rfl⟩
  · cases hv : Utf8.valid r
    · go_enter Try.func37, Try.ntmps37
      go_wp2_with (go_at_call 48; refine (valid_at _ _).mono ?_; rintro e w1 ⟨rfl, hw⟩; rw [hw, hv])
      go_ret
      exact ⟨rfl, Below.refl _ _⟩
    · obtain ⟨e1, e2, e3⟩ := encode_facts r hv h0
      have z2 : (bsL [0, 47]).size = 2 := rfl
      by_cases h2 : (Utf8.encode r).size = 2
      · have u2 : IntKind.i64.wrap ((Utf8.encode r).size - 1) = 1 := by rw [h2]; rfl
        have hi : 1 < (Utf8.encode r).size := by omega
        have hi2 : (1 : Int) < (Utf8.encode r).size := by omega
        have hb : 128 ≤ ((Utf8.encode r)[1]'hi).toNat := by
          have q := e3 (by omega)
          simpa only [h2] using q
        obtain ⟨x, hx⟩ : ∃ x : UInt8, (Utf8.encode r)[1]'hi = x := ⟨_, rfl⟩
        rw [hx] at hb
        have b1 : (bsL [0, 47])[1]'(by decide) = 47 := rfl
        have et : ∀ y, Lib.indexByte ByteArray.empty.data.toList y = -1 := fun y => rfl
        have xne : ((47 : Int) == (x.toNat : Int)) = false := by simp; omega
        clear e3
        go_enter Try.func37, Try.ntmps37
        go_wp2_with (go_at_call 48; refine (valid_at _ _).mono ?_; rintro e w1 ⟨rfl, hw⟩; rw [hw, hv])
        go_wp2
        go_step3
        go_wp2
        go_loopw [9, 10] (fun i f wr => i = .int .i64 1 ∧ f = .int .i64 0 ∧ wr = w) (fun _ _ _ => 0)
        case atStart => exact ⟨rfl, rfl, rfl⟩
        case round =>
          obtain ⟨rfl, rfl, rfl⟩ := hrel
          clear hw
          have mixed : Try.prog.follows .mixedOrders = true := by kernel_rfl
          go_wp2
          go_step3
          go_wp2
          go_region_o
          go_wp2
          go_region_with (go_at_call 47; refine (iby_at _ _ _).mono ?_; rintro e w2 ⟨rfl, hw⟩; rw [hw, et])
          all_goals go_wp2
          all_goals simp +zetaDelta only [Exit.inBlock, Exit.then, Exit.noGoto_ret]
          all_goals (refine bodyPost_ret (results_tmp rfl _ _ _) rfl ?_)
          all_goals exact ⟨rfl, (Below.refl _ _).drew.drew⟩
      · have u2 : IntKind.i64.wrap ((Utf8.encode r).size - 1) = ((Utf8.encode r).size - 1 : Nat) := by rw [IntWalk.i64_in _ (by omega)]; omega
        have i2 : ¬ ((((Utf8.encode r).size - 1 : Nat) : Int) < 2) := by omega
        clear e3
        go_enter Try.func37, Try.ntmps37
        go_wp2_with (go_at_call 48; refine (valid_at _ _).mono ?_; rintro e w1 ⟨rfl, hw⟩; rw [hw, hv])
        go_wp2
        go_step3
        go_wp2
        go_loopw [9, 10] (fun i f wr => i = .int .i64 ((Utf8.encode r).size - 1 : Nat) ∧ f = .int .i64 0 ∧ wr = w) (fun _ _ _ => 0)
        case atStart => exact ⟨rfl, rfl, rfl⟩
        case round =>
          obtain ⟨rfl, rfl, rfl⟩ := hrel
          clear hw
          go_wp2
          try rw [Exit.noGoto_ret]
          go_ret
          exact ⟨rfl, Below.refl _ _⟩

end Go.Proofs.Ytnmenihahgggmaa
