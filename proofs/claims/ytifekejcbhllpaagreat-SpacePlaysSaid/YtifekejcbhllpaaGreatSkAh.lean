/-
  SkAh: LawB, LeW, LnR, LnA.
-/
import Derived.Test.YtifekejcbhllpaaGreatSkAg
import Derived.Test.YtifekejcbhllpaaGreatSkAa
import Derived.Test.YtifekejcbhllpaaGreatSkAd
import Derived.Lib.AppendStr
import Derived.Shelf.Strings.Repeat
import Derived.Ground.NamesProg
import Derived.Lib.Agree

set_option linter.unusedVariables false

/-
  The walks of layer 1's other statements.
-/
namespace Go.Proofs.YtifekejcbhllpaaGreat
open Go.RowKit

theorem two_pow_8 (k : Nat) : (2 : Nat) ^ (8 * k) = 256 ^ k := by rw [Nat.pow_mul]
theorem get_put8 (n : Nat) (hn : n < 18446744073709551616) (m : List UInt8) : getL ((putL n 8 ++ m).take 8) = n := by
  rw [List.take_append_of_le_length (by simp [putL_length]), List.take_of_length_le (by simp [putL_length]), getL_putL]
  exact Nat.mod_eq_of_lt hn

end Go.Proofs.YtifekejcbhllpaaGreat

/-
  A line's words: Text and Words of package le.
-/
namespace Go.Proofs.YtifekejcbhllpaaGreat
open Go.RowKit
set_option linter.unusedVariables false

def catL (ns : List Nat) : List UInt8 := ns.flatMap (fun n => putL n 8)
theorem catL_length (ns : List Nat) : (catL ns).length = 8 * ns.length := by
  induction ns with
  | nil => rfl
  | cons n r ih => simp only [catL, List.flatMap_cons, List.length_append, putL_length, List.length_cons]; unfold catL at ih; omega
theorem catL_succ (ns : List Nat) (k n : Nat) (h : ns[k]? = some n) : catL (ns.take (k + 1)) = catL (ns.take k) ++ putL n 8 := by
  rw [List.take_add_one, h]
  simp [catL]
/-- The word at k of a line's bytes. -/
def wdL (l : List UInt8) (k : Nat) : Nat := getL ((l.drop (8 * k)).take 8)
theorem wdL_cat (n : Nat) (ns : List Nat) (hn : n < 18446744073709551616) : wdL (catL (n :: ns)) 0 = n := by
  unfold wdL catL
  simp only [List.flatMap_cons, Nat.mul_zero, List.drop_zero]
  exact get_put8 n hn _
theorem wdL_next (n : Nat) (ns : List Nat) (k : Nat) : wdL (catL (n :: ns)) (k + 1) = wdL (catL ns) k := by
  unfold wdL catL
  simp only [List.flatMap_cons]
  rw [show 8 * (k + 1) = (putL n 8).length + 8 * k by rw [putL_length]; omega, List.drop_append, List.drop_eq_nil_of_le (by omega)]
  simp
theorem wdL_all (ns : List Nat) (h : ∀ n ∈ ns, n < 18446744073709551616) : ∀ k n, ns[k]? = some n → wdL (catL ns) k = n := by
  induction ns with
  | nil => intro k n h; simp at h
  | cons m r ih =>
    intro k n hk
    match k, hk with
    | 0, hk => simp at hk; subst hk; exact wdL_cat m r (h m (by simp))
    | k + 1, hk => rw [wdL_next]; exact ih (fun x hx => h x (by simp [hx])) k n (by simpa using hk)
theorem cat_wdL (j : Nat) : ∀ (l : List UInt8), l.length = 8 * j → catL ((List.range j).map (wdL l)) = l := by
  induction j with
  | zero => intro l h; have : l = [] := List.length_eq_zero_iff.1 (by omega); subst this; rfl
  | succ j ih =>
    intro l h
    have e : (List.range (j + 1)).map (wdL l) = (List.range j).map (wdL (l.take (8 * j))) ++ [wdL l j] := by
      rw [List.range_succ, List.map_append]
      congr 1
      apply List.map_congr_left
      intro k hk
      have : k < j := by simpa using hk
      unfold wdL
      rw [List.drop_take, List.take_take, Nat.min_eq_left (by omega)]
    have e2 := ih (l.take (8 * j)) (by simp; omega)
    rw [e]
    unfold catL at e2 ⊢
    rw [List.flatMap_append, e2]
    simp only [List.flatMap_cons, List.flatMap_nil, List.append_nil]
    have e3 : putL (wdL l j) 8 = l.drop (8 * j) := by
      unfold wdL
      rw [List.take_of_length_le (by simp; omega)]
      have := putL_getL (l.drop (8 * j))
      rwa [show (l.drop (8 * j)).length = 8 by simp; omega] at this
    rw [e3, List.take_append_drop]

theorem strCells_is (l : List UInt8) : Lib.strCells ⟨l.toArray⟩ = l.map byteV := by
  unfold Lib.strCells byteV
  simp
theorem size_is (l : List UInt8) : (ByteArray.mk l.toArray).size = l.length := by simp [ByteArray.size]

theorem Holds.eight {w : World} {b : Nat} {t : TypeId} {x0 x1 x2 x3 x4 x5 x6 x7 : Value} (h : Holds w b #[x0, x1, x2, x3, x4, x5, x6, x7] t) :
    w.cell? ⟨b, 0, none⟩ = some x0 ∧ w.cell? ⟨b, 1, none⟩ = some x1 ∧ w.cell? ⟨b, 2, none⟩ = some x2 ∧ w.cell? ⟨b, 3, none⟩ = some x3 ∧ w.cell? ⟨b, 4, none⟩ = some x4 ∧ w.cell? ⟨b, 5, none⟩ = some x5 ∧ w.cell? ⟨b, 6, none⟩ = some x6 ∧ w.cell? ⟨b, 7, none⟩ = some x7 :=
  ⟨h.cell 0, h.cell 1, h.cell 2, h.cell 3, h.cell 4, h.cell 5, h.cell 6, h.cell 7⟩
theorem text_facts {w wm : World} {cs : Array Value} {t : TypeId} (hgrow : (w.alloc (.cells cs t)).grownBy wm none) : Holds wm w.heap.size cs t ∧ Below w.heap.size w wm := by
  have hb2 : Below (w.alloc (.cells cs t)).heap.size (w.alloc (.cells cs t)) wm := (Below.refl _ _).grown hgrow (by simp) (fun k hk => by cases hk)
  exact ⟨(Holds.new w cs t).below hb2, (below_new (Below.refl _ w) _).trans (hb2.mono (by simp))⟩

theorem own_keepW {w w' : World} {base : Nat} {e : TypeId} {size n : Nat} {v : Value} {xs : List Value} (h : w.ownsRow base e size v n xs) (hb : Below w.heap.size w w') : w'.ownsRow base e size v n xs := by
  refine ⟨h.1, ?_⟩
  rcases h.2 with hn | ⟨g, cap, cur, rfl, hg, hh, rest⟩
  · exact .inl hn
  · exact .inr ⟨g, cap, cur, rfl, hg, (hb.block g (Array.getElem?_eq_some_iff.1 hh).1).trans hh, rest⟩
theorem text_step {ns : List Nat} {k n : Nat} (hk : ns[k]? = some n) {w : World} {base : Nat} {e : TypeId} {v : Value}
    (h : w.ownsRow base e 1 v (8 * k + (ByteArray.mk (putL n 8).toArray).size) ((catL (ns.take k)).map byteV ++ Lib.strCells ⟨(putL n 8).toArray⟩)) :
    w.ownsRow base e 1 v (8 * (k + 1)) ((catL (ns.take (k + 1))).map byteV) := by
  rw [size_is, putL_length, strCells_is, ← List.map_append, ← catL_succ ns k n hk] at h
  exact h

set_option maxRecDepth 20000 in
theorem index8 (n0 n1 n2 n3 n4 n5 n6 n7 k n : Nat) (h : [n0, n1, n2, n3, n4, n5, n6, n7][k]? = some n) (W : World) :
    (Instr.index 155 (.agg #[.int .u64 n0, .int .u64 n1, .int .u64 n2, .int .u64 n3, .int .u64 n4, .int .u64 n5, .int .u64 n6, .int .u64 n7]) (.int .i64 (k : Int))).run Tryz.prog W = .ok (.int .u64 n) W := by
  have hk : k < 8 := by have := (List.getElem?_eq_some_iff.1 h).1; simpa using this
  have hc : k = 0 ∨ k = 1 ∨ k = 2 ∨ k = 3 ∨ k = 4 ∨ k = 5 ∨ k = 6 ∨ k = 7 := by omega
  rcases hc with rfl | rfl | rfl | rfl | rfl | rfl | rfl | rfl
  all_goals
    simp at h
    subst h
    first | rfl | kernel_rfl | simp [go_sem]

set_option maxHeartbeats 2000000 in
set_option maxRecDepth 20000 in
theorem text_any (n0 n1 n2 n3 n4 n5 n6 n7 : Nat) (hb : ∀ n ∈ [n0, n1, n2, n3, n4, n5, n6, n7], n < 18446744073709551616) (w : World) :
    Calls Tryz.prog 84 #[.agg #[.int .u64 n0, .int .u64 n1, .int .u64 n2, .int .u64 n3, .int .u64 n4, .int .u64 n5, .int .u64 n6, .int .u64 n7]] w fun e w' =>
      e = .returned (.string ⟨(catL [n0, n1, n2, n3, n4, n5, n6, n7]).toArray⟩) ∧ Below w.heap.size w w' := by
  obtain ⟨i0, hi, hz0, hz1, hz2⟩ := info_parts infoU8
  have HBD := Lib.hid hb
  clear hb
  go_enter Tryz.func84, Tryz.ntmps84
  go_wp2_with (refine wpList_make_own _ rfl _ _ 74 rfl w.heap.size 5 i0 (.int .u8 0) 1 Tryz.underlying74 hi hz0 hz1 .i64 .i64 _ 64 rfl rfl rfl (by rw [hz2]; omega) (by unfold maxLen; omega) (by simp) ?_; intro wm hown hgrow; obtain ⟨X1, B1⟩ := text_facts hgrow; clear hgrow; obtain ⟨c0, c1, c2, c3, c4, c5, c6, c7⟩ := X1.eight)
  clear c0 c1 c2 c3 c4 c5 c6 c7
  rw [show (w.alloc (Obj.cells #[Value.int IntKind.u64 n0, Value.int IntKind.u64 n1, Value.int IntKind.u64 n2, Value.int IntKind.u64 n3, Value.int IntKind.u64 n4, Value.int IntKind.u64 n5, Value.int IntKind.u64 n6, Value.int IntKind.u64 n7] 155)).heap.size = w.heap.size + 1 by simp] at hown
  go_loopw [3, 8] (fun v i wr => ∃ k : Nat, k ≤ 8 ∧ i = .int .i64 k ∧ wr.ownsRow w.heap.size 5 1 v (8 * k) ((catL ([n0, n1, n2, n3, n4, n5, n6, n7].take k)).map byteV) ∧ Below w.heap.size w wr) (fun _ i _ => 8 - (intOf i).toNat)
  case atStart => exact ⟨0, by omega, rfl, hown, B1⟩
  case round =>
    clear hown X1 B1
    obtain ⟨k, hk, rfl, hown, B2⟩ := hrel
    by_cases hlt : k < 8
    · obtain ⟨n, hn⟩ : ∃ n, [n0, n1, n2, n3, n4, n5, n6, n7][k]? = some n := ⟨_, List.getElem?_eq_getElem (by simpa using hlt)⟩
      have hnb : n < 18446744073709551616 := HBD.out n (List.mem_of_getElem? hn)
      have hix := index8 n0 n1 n2 n3 n4 n5 n6 n7 k n hn
      have HN := Lib.hid hn
      clear hn
      go_wp2_with fail
      refine (put_any n 8 _ hnb).mono ?_
      rintro e w2 ⟨rfl, hb2⟩
      rw [show clamp8 8 = 8 from rfl]
      have hown2 := own_keepW hown hb2
      have B3 := below_next B2 hb2
      have hz8 : (ByteArray.mk (putL n 8).toArray).size = 8 := by rw [size_is, putL_length]
      clear hown B2 hb2 hix
      go_wp2_with (first
        | (at_builtin; go_loud (refine Lib.wpList_append_own_string _ rfl _ _ 74 9 rfl w.heap.size 5 i0 Tryz.underlying74 Tryz.underlying9 hi hz0 hz1 hz2 _ _ _ rfl hown2 _ rfl ?c1 ?c2 ?c3 ?_)))
      case c1 => rw [hz8]; unfold maxLen; omega
      case c2 => rw [hz8]; omega
      case c3 => exact B3.size
      intro v' w3 hown3 hgrow _
      have hrel' := And.intro (text_step HN.out hown3) (B3.grown hgrow B3.size (fun g hg => (hown2.lt g hg).1))
      clear hown3 hgrow hown2 B3
      have HR := Lib.hid hrel'
      clear hrel'
      go_wp2
      go_roundw
      case rel => exact ⟨k + 1, by omega, by go_num, HR.out.1, HR.out.2⟩
      case measure => simp [intOf]; omega
    · obtain rfl : k = 8 := by omega
      have hfin := own_conv hown
      go_wp2
      go_ret
      exact ⟨rfl, B2⟩

def wcells (l : List UInt8) (k : Nat) : Array Value := ((List.range 8).map (fun j => Value.int .u64 ((if j < k then wdL l j else 0 : Nat) : Int))).toArray
theorem wcells_at (l : List UInt8) (k : Nat) (h : k < 8) : (wcells l k)[k]? = some (.int .u64 0) := by
  simp [wcells, h]
theorem wcells_next (l : List UInt8) (k : Nat) (h : k < 8) : (wcells l k).setIfInBounds k (.int .u64 (wdL l k : Nat)) = wcells l (k + 1) := by
  apply Array.ext
  · simp [wcells]
  · intro i h1 h2
    simp only [wcells, List.setIfInBounds_toArray, List.getElem_toArray, List.getElem_set, List.getElem_map, List.getElem_range]
    by_cases e : k = i
    · subst e; rw [if_pos rfl, if_pos (by omega)]
    · rw [if_neg e]
      by_cases c : i < k
      · rw [if_pos c, if_pos (by omega)]
      · rw [if_neg c, if_neg (by omega)]
theorem words_no (s : ByteArray) (w : World) (hs : s.size ≤ maxLen) (h : s.size ≠ 64) :
    Calls Tryz.prog 110 #[.string s] w fun e w' => e = .returned (.tuple #[.agg #[.int .u64 0, .int .u64 0, .int .u64 0, .int .u64 0, .int .u64 0, .int .u64 0, .int .u64 0, .int .u64 0], .int .i64 2]) ∧ Below w.heap.size w w' := by
  unfold maxLen at hs
  go_enter Tryz.func110, Tryz.ntmps110
  go_wp2
  exact bodyPost_ret (v := .tuple #[.agg #[.int .u64 0, .int .u64 0, .int .u64 0, .int .u64 0, .int .u64 0, .int .u64 0, .int .u64 0, .int .u64 0], .int .i64 2]) (by simp [results, Tryz.results110, go_sem]) rfl ⟨rfl, by go_grown⟩
set_option maxHeartbeats 2000000 in
theorem words_yes (s : ByteArray) (w : World) (h : s.size = 64) :
    Calls Tryz.prog 110 #[.string s] w fun e w' => e = .returned (.tuple #[.agg #[.int .u64 (wdL s.data.toList 0), .int .u64 (wdL s.data.toList 1), .int .u64 (wdL s.data.toList 2), .int .u64 (wdL s.data.toList 3), .int .u64 (wdL s.data.toList 4), .int .u64 (wdL s.data.toList 5), .int .u64 (wdL s.data.toList 6), .int .u64 (wdL s.data.toList 7)], .int .i64 0]) ∧ Below w.heap.size w w' := by
  go_enter Tryz.func110, Tryz.ntmps110
  go_wp2
  have Z1 : Holds ((w.alloc (Obj.cells #[Value.int IntKind.u64 0, Value.int IntKind.u64 0, Value.int IntKind.u64 0, Value.int IntKind.u64 0, Value.int IntKind.u64 0, Value.int IntKind.u64 0, Value.int IntKind.u64 0, Value.int IntKind.u64 0] 155)).alloc (Obj.cells #[Value.int IntKind.u64 0, Value.int IntKind.u64 0, Value.int IntKind.u64 0, Value.int IntKind.u64 0, Value.int IntKind.u64 0, Value.int IntKind.u64 0, Value.int IntKind.u64 0, Value.int IntKind.u64 0] 155)) w.heap.size #[Value.int IntKind.u64 0, Value.int IntKind.u64 0, Value.int IntKind.u64 0, Value.int IntKind.u64 0, Value.int IntKind.u64 0, Value.int IntKind.u64 0, Value.int IntKind.u64 0, Value.int IntKind.u64 0] 155 := (Holds.new w _ _).alloc _
  have Z2 : Holds ((w.alloc (Obj.cells #[Value.int IntKind.u64 0, Value.int IntKind.u64 0, Value.int IntKind.u64 0, Value.int IntKind.u64 0, Value.int IntKind.u64 0, Value.int IntKind.u64 0, Value.int IntKind.u64 0, Value.int IntKind.u64 0] 155)).alloc (Obj.cells #[Value.int IntKind.u64 0, Value.int IntKind.u64 0, Value.int IntKind.u64 0, Value.int IntKind.u64 0, Value.int IntKind.u64 0, Value.int IntKind.u64 0, Value.int IntKind.u64 0, Value.int IntKind.u64 0] 155)) (w.heap.size + 1) (wcells s.data.toList 0) 155 := by
    have := Holds.new (w.alloc (Obj.cells #[Value.int IntKind.u64 0, Value.int IntKind.u64 0, Value.int IntKind.u64 0, Value.int IntKind.u64 0, Value.int IntKind.u64 0, Value.int IntKind.u64 0, Value.int IntKind.u64 0, Value.int IntKind.u64 0] 155)) #[Value.int IntKind.u64 0, Value.int IntKind.u64 0, Value.int IntKind.u64 0, Value.int IntKind.u64 0, Value.int IntKind.u64 0, Value.int IntKind.u64 0, Value.int IntKind.u64 0, Value.int IntKind.u64 0] 155
    rw [show (w.alloc (Obj.cells #[Value.int IntKind.u64 0, Value.int IntKind.u64 0, Value.int IntKind.u64 0, Value.int IntKind.u64 0, Value.int IntKind.u64 0, Value.int IntKind.u64 0, Value.int IntKind.u64 0, Value.int IntKind.u64 0] 155)).heap.size = w.heap.size + 1 by simp] at this
    rw [show wcells s.data.toList 0 = #[Value.int IntKind.u64 0, Value.int IntKind.u64 0, Value.int IntKind.u64 0, Value.int IntKind.u64 0, Value.int IntKind.u64 0, Value.int IntKind.u64 0, Value.int IntKind.u64 0, Value.int IntKind.u64 0] from rfl]
    exact this
  have Z3 : Below w.heap.size w ((w.alloc (Obj.cells #[Value.int IntKind.u64 0, Value.int IntKind.u64 0, Value.int IntKind.u64 0, Value.int IntKind.u64 0, Value.int IntKind.u64 0, Value.int IntKind.u64 0, Value.int IntKind.u64 0, Value.int IntKind.u64 0] 155)).alloc (Obj.cells #[Value.int IntKind.u64 0, Value.int IntKind.u64 0, Value.int IntKind.u64 0, Value.int IntKind.u64 0, Value.int IntKind.u64 0, Value.int IntKind.u64 0, Value.int IntKind.u64 0, Value.int IntKind.u64 0] 155)) := by go_grown
  go_loopw [10] (fun i wr => ∃ k : Nat, k ≤ 8 ∧ i = .int .i64 k ∧ Holds wr w.heap.size #[Value.int IntKind.u64 0, Value.int IntKind.u64 0, Value.int IntKind.u64 0, Value.int IntKind.u64 0, Value.int IntKind.u64 0, Value.int IntKind.u64 0, Value.int IntKind.u64 0, Value.int IntKind.u64 0] 155 ∧ Holds wr (w.heap.size + 1) (wcells s.data.toList k) 155 ∧ Below w.heap.size w wr) (fun i _ => 8 - (intOf i).toNat)
  case atStart => exact ⟨0, by omega, rfl, Z1, Z2, Z3⟩
  case round =>
    clear Z1 Z2 Z3
    obtain ⟨k, hk, rfl, Z1, Z2, Z3⟩ := hrel
    by_cases hlt : k < 8
    · have hc := Z2.cell k
      rw [wcells_at _ _ hlt] at hc
      have hf := Z2.frozen k
      have hst := Z2.set k (.int .u64 (wdL s.data.toList k : Nat))
      rw [wcells_next _ _ hlt] at hst
      have RR := Lib.hid (And.intro (Z1.far (a := ⟨w.heap.size + 1, k, none⟩) (by simp) (.int .u64 (wdL s.data.toList k : Nat))) (And.intro hst (Z3.setCell (p := ⟨w.heap.size + 1, k, none⟩) (by simp) (.int .u64 (wdL s.data.toList k : Nat)))))
      clear Z1 Z2 Z3 hst
      have h8 : 8 * k ≤ 64 := by omega
      go_wp2_with fail
      refine (get_any _ _ (by rw [ByteArray.size_extract]; unfold maxLen; omega)).mono ?_
      rintro e v8 ⟨rfl, rfl⟩
      have e2 : getL (List.take 8 (s.extract (8 * k) 64).data.toList) = wdL s.data.toList k := by
        have hl : s.data.toList.length = 64 := by rw [Array.length_toList]; exact h
        unfold wdL
        simp only [ByteArray.data_extract, Array.toList_extract, List.extract_eq_take_drop]
        rw [List.take_take, Nat.min_eq_left (by omega)]
      rw [e2]
      clear e2
      generalize wdL s.data.toList k = u at *
      go_wp2
      go_roundw
      case rel => exact ⟨k + 1, by omega, by go_num, RR.out.1, RR.out.2.1, RR.out.2.2⟩
      case measure => simp [intOf]; omega
    · obtain rfl : k = 8 := by omega
      have Z4 : Holds wr (w.heap.size + 1) #[.int .u64 (wdL s.data.toList 0), .int .u64 (wdL s.data.toList 1), .int .u64 (wdL s.data.toList 2), .int .u64 (wdL s.data.toList 3), .int .u64 (wdL s.data.toList 4), .int .u64 (wdL s.data.toList 5), .int .u64 (wdL s.data.toList 6), .int .u64 (wdL s.data.toList 7)] 155 := Z2
      obtain ⟨c0, c1, c2, c3, c4, c5, c6, c7⟩ := Z4.eight
      obtain ⟨d0, d1, d2, d3, d4, d5, d6, d7⟩ := Z1.eight
      have f0 := Z1.frozen
      have HX := Lib.hid (And.intro (show Holds ((((((((wr.setCell ⟨w.heap.size, 0, none⟩ (Value.int IntKind.u64 (wdL s.data.toList 0 : Nat))).setCell ⟨w.heap.size, 1, none⟩ (Value.int IntKind.u64 (wdL s.data.toList 1 : Nat))).setCell ⟨w.heap.size, 2, none⟩ (Value.int IntKind.u64 (wdL s.data.toList 2 : Nat))).setCell ⟨w.heap.size, 3, none⟩ (Value.int IntKind.u64 (wdL s.data.toList 3 : Nat))).setCell ⟨w.heap.size, 4, none⟩ (Value.int IntKind.u64 (wdL s.data.toList 4 : Nat))).setCell ⟨w.heap.size, 5, none⟩ (Value.int IntKind.u64 (wdL s.data.toList 5 : Nat))).setCell ⟨w.heap.size, 6, none⟩ (Value.int IntKind.u64 (wdL s.data.toList 6 : Nat))).setCell ⟨w.heap.size, 7, none⟩ (Value.int IntKind.u64 (wdL s.data.toList 7 : Nat))) w.heap.size #[.int .u64 (wdL s.data.toList 0), .int .u64 (wdL s.data.toList 1), .int .u64 (wdL s.data.toList 2), .int .u64 (wdL s.data.toList 3), .int .u64 (wdL s.data.toList 4), .int .u64 (wdL s.data.toList 5), .int .u64 (wdL s.data.toList 6), .int .u64 (wdL s.data.toList 7)] 155 from ((((((((Z1.set 0 (Value.int IntKind.u64 (wdL s.data.toList 0 : Nat))).set 1 (Value.int IntKind.u64 (wdL s.data.toList 1 : Nat))).set 2 (Value.int IntKind.u64 (wdL s.data.toList 2 : Nat))).set 3 (Value.int IntKind.u64 (wdL s.data.toList 3 : Nat))).set 4 (Value.int IntKind.u64 (wdL s.data.toList 4 : Nat))).set 5 (Value.int IntKind.u64 (wdL s.data.toList 5 : Nat))).set 6 (Value.int IntKind.u64 (wdL s.data.toList 6 : Nat))).set 7 (Value.int IntKind.u64 (wdL s.data.toList 7 : Nat)))) ((((((((Z3.setCell (p := ⟨w.heap.size, 0, none⟩) (by simp) (Value.int IntKind.u64 (wdL s.data.toList 0 : Nat))).setCell (p := ⟨w.heap.size, 1, none⟩) (by simp) (Value.int IntKind.u64 (wdL s.data.toList 1 : Nat))).setCell (p := ⟨w.heap.size, 2, none⟩) (by simp) (Value.int IntKind.u64 (wdL s.data.toList 2 : Nat))).setCell (p := ⟨w.heap.size, 3, none⟩) (by simp) (Value.int IntKind.u64 (wdL s.data.toList 3 : Nat))).setCell (p := ⟨w.heap.size, 4, none⟩) (by simp) (Value.int IntKind.u64 (wdL s.data.toList 4 : Nat))).setCell (p := ⟨w.heap.size, 5, none⟩) (by simp) (Value.int IntKind.u64 (wdL s.data.toList 5 : Nat))).setCell (p := ⟨w.heap.size, 6, none⟩) (by simp) (Value.int IntKind.u64 (wdL s.data.toList 6 : Nat))).setCell (p := ⟨w.heap.size, 7, none⟩) (by simp) (Value.int IntKind.u64 (wdL s.data.toList 7 : Nat))))
      clear Z1 Z2 Z3 Z4
      go_wp2
      have HX2 := HX.out
      generalize ((((((((wr.setCell ⟨w.heap.size, 0, none⟩ (Value.int IntKind.u64 (wdL s.data.toList 0 : Nat))).setCell ⟨w.heap.size, 1, none⟩ (Value.int IntKind.u64 (wdL s.data.toList 1 : Nat))).setCell ⟨w.heap.size, 2, none⟩ (Value.int IntKind.u64 (wdL s.data.toList 2 : Nat))).setCell ⟨w.heap.size, 3, none⟩ (Value.int IntKind.u64 (wdL s.data.toList 3 : Nat))).setCell ⟨w.heap.size, 4, none⟩ (Value.int IntKind.u64 (wdL s.data.toList 4 : Nat))).setCell ⟨w.heap.size, 5, none⟩ (Value.int IntKind.u64 (wdL s.data.toList 5 : Nat))).setCell ⟨w.heap.size, 6, none⟩ (Value.int IntKind.u64 (wdL s.data.toList 6 : Nat))).setCell ⟨w.heap.size, 7, none⟩ (Value.int IntKind.u64 (wdL s.data.toList 7 : Nat))) = wz at *
      obtain ⟨X1, B1⟩ := HX2
      obtain ⟨e0, e1, e2, e3, e4, e5, e6, e7⟩ := X1.eight
      exact bodyPost_ret (v := .tuple #[.agg #[.int .u64 (wdL s.data.toList 0), .int .u64 (wdL s.data.toList 1), .int .u64 (wdL s.data.toList 2), .int .u64 (wdL s.data.toList 3), .int .u64 (wdL s.data.toList 4), .int .u64 (wdL s.data.toList 5), .int .u64 (wdL s.data.toList 6), .int .u64 (wdL s.data.toList 7)], .int .i64 0]) (by simp [results, Tryz.results110, go_sem, e0, e1, e2, e3, e4, e5, e6, e7]) rfl ⟨rfl, B1⟩

end Go.Proofs.YtifekejcbhllpaaGreat

/-
  Layer 4: strings.Repeat (the library's contract, laid at this seat); full.
-/
namespace Go.Proofs.YtifekejcbhllpaaGreat
open Go.RowKit Go.Shelf

def LnR.lays_ren : Go.Shelf.Ren := ⟨fun | 105 => 9 | 212 => 29 | 99 => 30 | 165 => 31 | 166 => 32 | 170 => 33 | 169 => 34 | 263 => 57 | 264 => 58 | 206 => 59 | 240 => 60 | 241 => 61 | 276 => 93 | 277 => 94 | n => n, fun | 9 => 9 | 3 => 3 | 4 => 4 | 20 => 20 | 0 => 0 | 46 => 69 | 109 => 70 | 5 => 5 | 72 => 76 | 76 => 79 | 51 => 95 | 146 => 123 | 53 => 22 | 148 => 125 | 70 => 73 | 37 => 74 | 75 => 78 | 127 => 127 | 164 => 165 | 80 => 81 | n => n, fun | n => n⟩
theorem LnR.lays : Go.Proofs.Lays.n105 Tryz.prog LnR.lays_ren where
  mixed := by kernel_rfl
  f99 := Tryz.func30.trans (congrArg some (by kernel_rfl))
  f105 := Tryz.func9.trans (congrArg some (by kernel_rfl))
  f165 := Tryz.func31.trans (congrArg some (by kernel_rfl))
  f166 := Tryz.func32.trans (congrArg some (by kernel_rfl))
  f169 := Tryz.func34.trans (congrArg some (by kernel_rfl))
  f170 := Tryz.func33.trans (congrArg some (by kernel_rfl))
  f206 := Tryz.func59.trans (congrArg some (by kernel_rfl))
  f212 := Tryz.func29.trans (congrArg some (by kernel_rfl))
  f240 := Tryz.func60.trans (congrArg some (by kernel_rfl))
  f241 := Tryz.func61.trans (congrArg some (by kernel_rfl))
  f263 := Tryz.func57.trans (congrArg some (by kernel_rfl))
  f264 := Tryz.func58.trans (congrArg some (by kernel_rfl))
  f276 := Tryz.func93.trans (congrArg some (by kernel_rfl))
  f277 := Tryz.func94.trans (congrArg some (by kernel_rfl))
  t0 := Tryz.underlying0
  a0 := Tryz.isAgg0
  z0 := Tryz.sizeOf0
  v0 := Tryz.zeroValue0
  t3 := Tryz.underlying3
  a3 := Tryz.isAgg3
  z3 := Tryz.sizeOf3
  v3 := Tryz.zeroValue3
  t4 := Tryz.underlying4
  a4 := Tryz.isAgg4
  z4 := Tryz.sizeOf4
  v4 := Tryz.zeroValue4
  t5 := Tryz.underlying5
  a5 := Tryz.isAgg5
  z5 := Tryz.sizeOf5
  v5 := Tryz.zeroValue5
  t9 := Tryz.underlying9
  a9 := Tryz.isAgg9
  z9 := Tryz.sizeOf9
  v9 := Tryz.zeroValue9
  t20 := Tryz.underlying20
  a20 := Tryz.isAgg20
  z20 := Tryz.sizeOf20
  v20 := Tryz.zeroValue20
  t37 := Tryz.underlying74
  a37 := Tryz.isAgg74
  z37 := Tryz.sizeOf74
  v37 := Tryz.zeroValue74
  t46 := Tryz.underlying69
  a46 := Tryz.isAgg69
  z46 := Tryz.sizeOf69
  v46 := Tryz.zeroValue69
  t51 := Tryz.underlying95
  a51 := Tryz.isAgg95
  z51 := Tryz.sizeOf95
  v51 := Tryz.zeroValue95
  t53 := Tryz.underlying22
  a53 := Tryz.isAgg22
  z53 := Tryz.sizeOf22
  v53 := Tryz.zeroValue22
  t70 := Tryz.underlying73
  a70 := Tryz.isAgg73
  z70 := Tryz.sizeOf73
  v70 := Tryz.zeroValue73
  t72 := Tryz.underlying76
  a72 := Tryz.isAgg76
  z72 := Tryz.sizeOf76
  v72 := Tryz.zeroValue76
  t75 := Tryz.underlying78
  a75 := Tryz.isAgg78
  z75 := Tryz.sizeOf78
  v75 := Tryz.zeroValue78
  t76 := Tryz.underlying79
  a76 := Tryz.isAgg79
  z76 := Tryz.sizeOf79
  v76 := Tryz.zeroValue79
  t109 := Tryz.underlying70
  a109 := Tryz.isAgg70
  z109 := Tryz.sizeOf70
  v109 := Tryz.zeroValue70
  t127 := Tryz.underlying127
  a127 := Tryz.isAgg127
  z127 := Tryz.sizeOf127
  v127 := Tryz.zeroValue127
  t146 := Tryz.underlying123
  a146 := Tryz.isAgg123
  z146 := Tryz.sizeOf123
  v146 := Tryz.zeroValue123
  t148 := Tryz.underlying125
  a148 := Tryz.isAgg125
  z148 := Tryz.sizeOf125
  v148 := Tryz.zeroValue125
  t164 := Tryz.underlying165
  a164 := Tryz.isAgg165
  z164 := Tryz.sizeOf165
  v164 := Tryz.zeroValue165


theorem LnR.extra : Builder.Extra Tryz.prog LnR.lays_ren where
  sizeBuilder := by kernel_rfl
  liesBuilder := by kernel_rfl
  t5 := LnR.lays.t5
  a5 := LnR.lays.a5
  z5 := LnR.lays.z5
  v5 := LnR.lays.v5
  infoByte := by kernel_rfl
  cellsByte := by kernel_rfl
  sizeByte := by kernel_rfl
  neB5 := by decide
theorem LnR.fRepeat : LnR.lays_ren.f 105 = 9 := by kernel_rfl
end Go.Proofs.YtifekejcbhllpaaGreat

/-
  Layer 4: has, store, PutWord.
-/
namespace Go.Proofs.YtifekejcbhllpaaGreat
open Go.RowKit

set_option maxRecDepth 20000 in
theorem has_any (a : DevA) (D : DevS) (z : Int) (w : World) (h : DevIs w a D) : Calls Tryz.prog 111 #[.pointer (some ⟨a.bd, 0, none⟩), .int .i64 z] w fun e w' => e = .returned (.bool (isLine D z)) ∧ w = w' := by
  have HL := Lib.hid (lines_any a D w h)
  unfold isLine
  generalize D.n = n at *
  clear h
  by_cases h0 : 0 ≤ z
  · have hd : decide ((0 : Int) ≤ z) = true := by simpa using h0
    have HE := Lib.hid (show decide (0 ≤ z ∧ z < (n : Int)) = decide (z < (n : Int)) by simp [h0])
    go_enter Tryz.func111, Tryz.ntmps111
    go_wp2_with fail
    refine HL.out.mono ?_
    rintro e w' ⟨rfl, rfl⟩
    go_wp2_with fail
    go_ret
    exact ⟨by first | rfl | (rw [HE.out]; rfl) | simp, rfl⟩
  · have hd : decide ((0 : Int) ≤ z) = false := by simpa using h0
    have HE := Lib.hid (show decide (0 ≤ z ∧ z < (n : Int)) = false by simp [h0])
    go_enter Tryz.func111, Tryz.ntmps111
    go_wp2_with fail
    go_ret
    exact ⟨by first | rfl | (rw [HE.out]) | simp, rfl⟩

/-! ### store -/
def finS (l : Nat) (D : DevS) : Int × DevS := if opE D (isLine D l) = 0 then (opE (opD D (isLine D l) (flushF l)) true, opD (opD D (isLine D l) (flushF l)) true fenceF) else (opE D (isLine D l), opD D (isLine D l) (flushF l))
/-- m words from the i-th on are still to be stored: what is answered, what becomes of the device. -/
def stos (l k : Nat) (f : Nat → Nat) : Nat → Nat → DevS → Int × DevS
  | 0, _, D => finS l D
  | m + 1, i, D => if opE D (isWord D ((8 * l + k + i : Nat) : Int)) = 0 then stos l k f m (i + 1) (opD D (isWord D ((8 * l + k + i : Nat) : Int)) (storeF ((8 * l + k + i : Nat) : Int) (f i))) else (opE D (isWord D ((8 * l + k + i : Nat) : Int)), opD D (isWord D ((8 * l + k + i : Nat) : Int)) (storeF ((8 * l + k + i : Nat) : Int) (f i)))
/-- How much was done, how often a line was written, at most; so many lines. -/
def Bd (D : DevS) (c : Nat) : Prop := D.cnt ≤ c ∧ ∀ l, 0 ≤ D.wear l ∧ D.wear l ≤ (c : Int)
theorem Bd.mono {D : DevS} {c c' : Nat} (h : Bd D c) (hc : c ≤ c') : Bd D c' := ⟨by have := h.1; omega, fun l => by have := h.2 l; omega⟩
theorem Bd.op {D : DevS} {c : Nat} (h : Bd D c) (t : Bool) {f : DevS → DevS} (hf : Bd (f (lit D)) (c + 1)) : Bd (opD D t f) (c + 1) := by
  unfold opD
  split
  · exact h.mono (by omega)
  · split
    · exact h.mono (by omega)
    · exact hf
theorem Bd.store {D : DevS} {c : Nat} (h : Bd D c) (z : Int) (v : Nat) (t : Bool) : Bd (opD D t (storeF z v)) (c + 1) := h.op _ ⟨by have := h.1; show D.cnt + 1 ≤ c + 1; omega, fun l => (h.mono (Nat.le_succ c)).2 l⟩
theorem Bd.flush {D : DevS} {c : Nat} (h : Bd D c) (z : Int) (t : Bool) : Bd (opD D t (flushF z)) (c + 1) := h.op _ ⟨by have := h.1; show D.cnt + 1 ≤ c + 1; omega, fun l => (h.mono (Nat.le_succ c)).2 l⟩
theorem Bd.fence {D : DevS} {c : Nat} (h : Bd D c) (t : Bool) : Bd (opD D t fenceF) (c + 1) := h.op _ ⟨by have := h.1; show D.cnt + 1 ≤ c + 1; omega, fun l => by
  have := h.2 l
  show 0 ≤ perWear (lit D) (linesOf (fluS (lit D))) l ∧ perWear (lit D) (linesOf (fluS (lit D))) l ≤ _
  unfold perWear
  have e : ∀ (p : Prop) [Decidable p], 0 ≤ (if p then D.wear l + 1 else D.wear l) ∧ (if p then D.wear l + 1 else D.wear l) ≤ ((c + 1 : Nat) : Int) := fun p _ => by split <;> omega
  exact e _⟩

set_option maxRecDepth 20000 in
set_option maxHeartbeats 2000000 in
theorem lstore_any (a : DevA) (D : DevS) (l k m b o cap c : Nat) (f : Nat → Nat) (w : World) (h : DevIs w a D) (hb : Bd D c) (hc : c < 1000000000) (hl : l < 65536) (hk : k < 8) (hm : m ≤ 8) (hcap : m ≤ cap) (hmax : cap ≤ maxLen) (hn : b ∉ a.all)
    (hcell : ∀ i, i < m → w.cell? ⟨b, o + i, none⟩ = some (.int .u64 (f i : Int))) (hf : ∀ i, i < m → f i < 18446744073709551616) (hblt : b < w.heap.size) (hm0 : 0 < m) :
    Calls Tryz.prog 112 #[.pointer (some ⟨a.bd, 0, none⟩), .int .i64 (l : Int), .int .i64 (k : Int), .slice (some ⟨b, o, none⟩) m cap] w fun e w' => e = .returned (.int .i64 (stos l k f m 0 D).1) ∧ DevIs w' a (stos l k f m 0 D).2 ∧ Bd (stos l k f m 0 D).2 (c + 10) ∧ Gr a.all w w' := by
  obtain ⟨T, hT⟩ : ∃ T, stos l k f m 0 D = T := ⟨_, rfl⟩
  rw [hT]
  have HT := Lib.hid hT
  have HD := Lib.hid (And.intro h hb)
  have HC := Lib.hid (And.intro hcell (And.intro hf hn))
  unfold maxLen at hmax
  clear h hb hcell hf hT hn
  go_enter Tryz.func112, Tryz.ntmps112
  go_wp2_with fail
  go_loopw [15] (fun z wr => ∃ (i : Nat) (D' : DevS), i ≤ m ∧ z = .int .i64 (i : Int) ∧ T = stos l k f (m - i) i D' ∧ DevIs wr a D' ∧ Bd D' (c + i) ∧ Gr a.all w wr) (fun z _ => m - (intOf z).toNat)
  case atStart => exact ⟨0, D, by omega, rfl, HT.out.symm, HD.out.1, HD.out.2, Gr.refl _ _⟩
  case round =>
    clear HT HD
    obtain ⟨i, D', hi, rfl, hT, d2, b2, g2⟩ := hrel
    by_cases hlt : i < m
    · have e0 : wr.cell? ⟨b, o + i, none⟩ = some (.int .u64 (f i : Int)) := (World.cell?_of_block (w := w) (g2.block b hblt HC.out.2.2)).trans (HC.out.1 i hlt)
      have hd : decide ((i : Int) < (m : Int)) = true := by simpa using hlt
      obtain ⟨q, hq⟩ : ∃ q : Nat, q = 8 * l + k + i := ⟨_, rfl⟩
      have hq2 : (l : Int) * 8 + (k : Int) + (i : Int) = (q : Int) := by omega
      rw [show m - i = (m - i - 1) + 1 by omega] at hT
      unfold stos at hT
      rw [← hq] at hT
      have HS := Lib.hid (store_any a D' (q : Int) (f i) wr d2 (HC.out.2.1 i hlt) (by have := b2.1; omega))
      have HT := Lib.hid hT
      have HB := Lib.hid (And.intro b2 g2)
      clear d2 b2 g2 hT hq
      generalize f i = v at *
      by_cases he : opE D' (isWord D' (q : Int)) = 0
      · rw [he] at HS
        have HT := Lib.hid (HT.out.trans (if_pos he))
        clear he
        go_wp2_with fail
        refine HS.out.mono ?_
        rintro e w3 ⟨rfl, d3, g3⟩
        have HN := Lib.hid (And.intro d3 (And.intro (HB.out.1.store (q : Int) v (isWord D' (q : Int))) (HB.out.2.trans g3)))
        clear d3 g3 HS e0
        go_wp2_with fail
        go_roundw
        case rel => exact ⟨i + 1, _, by omega, by go_num, by rw [show m - (i + 1) = m - i - 1 by omega]; exact HT.out, HN.out.1, HN.out.2.1, HN.out.2.2⟩
        case measure => simp [intOf]; omega
      · have HT := Lib.hid (HT.out.trans (if_neg he))
        obtain ⟨ev, hev⟩ : ∃ ev, opE D' (isWord D' (q : Int)) = ev := ⟨_, rfl⟩
        rw [hev] at he HS HT
        have he2 : (ev == 0) = false := by simpa using he
        clear he hev
        go_wp2_with fail
        refine HS.out.mono ?_
        rintro e w3 ⟨rfl, d3, g3⟩
        have HN := Lib.hid (And.intro d3 (And.intro (HB.out.1.store (q : Int) v (isWord D' (q : Int))) (HB.out.2.trans g3)))
        clear d3 g3 HS e0
        go_wp2_with fail
        go_ret
        rw [HT.out]
        exact ⟨rfl, HN.out.1, HN.out.2.1.mono (by omega), HN.out.2.2⟩
    · obtain rfl : i = m := by omega
      rw [Nat.sub_self] at hT
      unfold stos finS at hT
      have hd : decide ((i : Int) < (i : Int)) = false := by simp
      have HS := Lib.hid (flush_any a D' (l : Int) wr d2 (by have := b2.1; omega))
      have HT := Lib.hid hT
      have HB := Lib.hid (And.intro b2 g2)
      clear d2 b2 g2 hT
      by_cases he : opE D' (isLine D' (l : Int)) = 0
      · rw [he] at HS
        have HT := Lib.hid (HT.out.trans (if_pos he))
        clear he
        go_wp2_with fail
        refine HS.out.mono ?_
        rintro e w3 ⟨rfl, d3, g3⟩
        have b3 := HB.out.1.flush (l : Int) (isLine D' (l : Int))
        have HS := Lib.hid (fence_any a _ w3 d3 (by have := b3.1; omega) (fun x => by have := b3.2 x; omega))
        have HN := Lib.hid (And.intro b3 (HB.out.2.trans g3))
        clear d3 g3 b3
        go_wp2_with fail
        refine HS.out.mono ?_
        rintro e w4 ⟨rfl, d4, g4⟩
        have HN := Lib.hid (And.intro d4 (And.intro (HN.out.1.fence true) (HN.out.2.trans g4)))
        clear d4 g4 HS
        go_wp2_with fail
        go_ret
        rw [HT.out]
        exact ⟨rfl, HN.out.1, HN.out.2.1.mono (by omega), HN.out.2.2⟩
      · have HT := Lib.hid (HT.out.trans (if_neg he))
        obtain ⟨ev, hev⟩ : ∃ ev, opE D' (isLine D' (l : Int)) = ev := ⟨_, rfl⟩
        rw [hev] at he HS HT
        have he2 : (ev == 0) = false := by simpa using he
        clear he hev
        go_wp2_with fail
        refine HS.out.mono ?_
        rintro e w3 ⟨rfl, d3, g3⟩
        have HN := Lib.hid (And.intro d3 (And.intro (HB.out.1.flush (l : Int) (isLine D' (l : Int))) (HB.out.2.trans g3)))
        clear d3 g3 HS
        go_wp2_with fail
        go_ret
        rw [HT.out]
        exact ⟨rfl, HN.out.1, HN.out.2.1.mono (by omega), HN.out.2.2⟩

end Go.Proofs.YtifekejcbhllpaaGreat
