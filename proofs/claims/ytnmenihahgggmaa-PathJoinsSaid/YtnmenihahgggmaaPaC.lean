/-
  Layer 18: slices.Clone, slices.Concat of strings.
-/
import Derived.Test.YtnmenihahgggmaaPaX
import Derived.Shelf.Spec.SlicesGrow
import Derived.Laws.AppendOwnNone
namespace Go.Proofs.Ytnmenihahgggmaa
open Go.RowKit Go.Shelf

def PaC.grow_ren : Go.Shelf.Ren := ⟨fun | 4 => 31 | n => n, fun | 22 => 22 | 25 => 9 | 3 => 3 | 4 => 4 | 9 => 9 | 20 => 20 | 0 => 0 | n => n, fun | n => n⟩
theorem PaC.grow : Go.Proofs.Lays8.n4 Try.prog PaC.grow_ren where
  mixed := by kernel_rfl
  f4 := ⟨ "slices.Grow[[]string,string]", by decide, Try.func31.trans (congrArg some (by kernel_rfl))⟩
  t0 := Try.underlying0
  a0 := Try.isAgg0
  z0 := Try.sizeOf0
  v0 := Try.zeroValue0
  t3 := Try.underlying3
  a3 := Try.isAgg3
  z3 := Try.sizeOf3
  v3 := Try.zeroValue3
  t4 := Try.underlying4
  a4 := Try.isAgg4
  z4 := Try.sizeOf4
  v4 := Try.zeroValue4
  t9 := Try.underlying9
  a9 := Try.isAgg9
  z9 := Try.sizeOf9
  v9 := Try.zeroValue9
  t20 := Try.underlying20
  a20 := Try.isAgg20
  z20 := Try.sizeOf20
  v20 := Try.zeroValue20
  t22 := Try.underlying22
  a22 := Try.isAgg22
  z22 := Try.sizeOf22
  v22 := Try.zeroValue22

def cellsS (l : List (List UInt8)) : List Value := l.map sv
theorem cellsS_len (l : List (List UInt8)) : (cellsS l).length = l.length * 1 := by simp [cellsS]
theorem cellsS_one (l : List (List UInt8)) : ∀ u ∈ cellsS l, u.oneCell' = true := by
  intro u hu
  obtain ⟨e, _, rfl⟩ := List.mem_map.1 hu
  rfl
theorem cellsS_append (a b : List (List UInt8)) : cellsS (a ++ b) = cellsS a ++ cellsS b := by simp [cellsS]
theorem cellsS_nil : cellsS [] = [] := rfl
theorem RdS.cells {w : World} {ao : Option Addr} {l : List (List UInt8)} (h : RdS w ao l) {a : Addr} (ha : ao = some a) (j : Nat) (u : Value) (hj : (cellsS l)[j]? = some u) : w.cell? (a.add j) = some u := by
  subst ha
  unfold cellsS at hj
  rw [List.getElem?_map, Option.map_eq_some_iff] at hj
  obtain ⟨x, hx, rfl⟩ := hj
  obtain ⟨k, o, q1, q2, q3⟩ := h j x hx
  cases q1
  have hadd : (⟨k, o, none⟩ : Addr).add j = ⟨k, o + j, none⟩ := by unfold Addr.add; split <;> simp_all
  rw [hadd]
  exact q3
theorem own_form {w : World} {base : Nat} {e : TypeId} {size n : Nat} {v : Value} {xs : List Value} (h : w.ownsRow base e size v n xs) : ∃ ao cap, v = .slice ao n cap := by
  rcases h.2 with ⟨rfl, rfl⟩ | ⟨g, cap, cur, rfl, _⟩
  · exact ⟨none, 0, rfl⟩
  · exact ⟨_, _, rfl⟩
set_option maxHeartbeats 1000000 in
theorem sclone_any (ao : Option Addr) (l : List (List UInt8)) (cap : Nat) (w : World) (h : RdS w ao l) (hl : l.length ≤ 70000) (hc : l.length ≤ cap) (hn : ao = none → cap = 0) :
    Calls Try.prog 21 #[.slice ao l.length cap] w fun e w' => ∃ v, e = .returned v ∧ w'.ownsRow w.heap.size 9 1 v l.length (cellsS l) ∧ Gr [] w w' := by
  obtain ⟨i0, hi, hz0, hz1, hz2⟩ := info_parts infoStr
  have hcells := cellsS_len l
  have hone := cellsS_one l
  cases ao with
  | none =>
    obtain rfl := hn rfl
    have h0 : l = [] := List.length_eq_zero_iff.1 (by omega)
    subst h0
    have he := fun (W : World) => Lib.run_eql_slice_nil (P := Try.prog) W 22 9 none 0 0 0 0 Try.underlying22
    go_enter Try.func21, Try.ntmps21
    go_wp2_with fail
    go_ret
    exact ⟨_, rfl, World.ownsRow_nil _ _ _ _, Gr.refl _ _⟩
  | some a =>
    have hr := (h.gr0 ((Gr.refl _ w).alloc (Obj.cells #[] 9))).cells rfl
    have HN := Lib.hid (And.intro hr (And.intro hcells hone))
    clear hr hcells hone h
    have he := fun (W : World) (n c : Nat) => Lib.run_eql_slice_nil (P := Try.prog) W 22 9 (some a) n c 0 0 Try.underlying22
    obtain ⟨n, hn2⟩ : ∃ n, n = l.length := ⟨_, rfl⟩
    rw [← hn2] at HN hl ⊢
    clear hn2
    have hown := World.ownsRow_made (base := w.heap.size) (e := 9) (size := 1) w #[] 0 (Nat.le_refl _) (Nat.zero_le _) rfl
    have HR := Lib.hid hown
    clear hown
    go_enter Try.func21, Try.ntmps21
    go_wp2_with (at_builtin; refine wpList_append_own _ rfl _ _ 22 rfl w.heap.size 9 i0 _ 1 16 Try.underlying22 hi hz0 hz1 hz2 rfl (by decide) _ _ _ rfl HR.out a n cap (cellsS l) rfl ?c1 ?c2 ?c3 ?c4 ?c5 ?c6 ?_)
    case c1 => exact HN.out.2.1
    case c2 => exact HN.out.1
    case c3 => exact HN.out.2.2
    case c4 => unfold maxLen; omega
    case c5 => omega
    case c6 => simp
    intro v' w1 hown' hgrow _
    have HF := Lib.hid (And.intro hown' hgrow)
    clear hown' hgrow
    go_wp2_with fail
    go_ret
    exact ⟨_, rfl, HF.out.1, ((Gr.refl [] w).alloc _).grown HF.out.2 (fun k hk => .inr (by simp [Value.ownBlock] at hk; omega))⟩

theorem sgrow_any (n : Nat) (w : World) (hn : n ≤ 1000000) :
    Calls Try.prog 31 #[.slice none 0 0, .int .i64 n] w fun e w' => ∃ v, e = .returned v ∧ w'.ownsRow w.heap.size 9 1 v 0 [] ∧ Gr [] w w' := by
  by_cases h0 : n = 0
  · subst h0
    refine (Any8.slices_Grow_room PaC.grow none 0 0 0 w (by omega) (by omega) (by omega) (by omega)).mono ?_
    rintro e w' ⟨rfl, rfl⟩
    exact ⟨_, rfl, World.ownsRow_nil _ _ _ _, Gr.refl _ _⟩
  · obtain ⟨i0, hi, hz0, hz1, hz2⟩ := info_parts infoStr
    refine (Any8.slices_Grow_grow PaC.grow i0 _ hi hz0 (by omega) none 0 0 n [] w (by omega) (by omega) (by rw [hz2]; omega) (by omega) (by simp) (fun _ => rfl) (fun a ha => by cases ha)).mono ?_
    rintro e w' ⟨rfl, rfl⟩
    have hge : n ≤ grownCap w (0 + n) 0 9 := by have := grownCap_ge w (0 + n) 0 9; omega
    have hle := grownCap_le_maxLen w (0 + n) 0 9 (by unfold maxLen; omega)
    refine ⟨_, rfl, World.ownsRow_made (base := w.heap.size) (size := 1) w.drew _ _ (Nat.le_refl _) hle ?_, (Gr.refl [] w).drew.alloc _⟩
    have hz : ∀ k, (Builtin.zeroCells (Value.cells (.string ⟨#[]⟩)) k).size = k * 1 := fun k => by
      simp [Builtin.zeroCells, Value.cells]
    rw [Array.size_append, Array.size_append, hz, hz]
    show 0 + (0 + n - 0) * 1 + (grownCap w (0 + n) 0 9 - (0 + n)) * 1 = grownCap w (0 + n) 0 9 * 1
    omega

/-! ### Concat -/
def catS (LL : List (Option Addr × Nat × List (List UInt8))) : List (List UInt8) := LL.flatMap fun x => x.2.2
theorem catS_len_take (LL : List (Option Addr × Nat × List (List UInt8))) (k : Nat) : (catS (LL.take k)).length ≤ (catS LL).length := by
  have : catS LL = catS (LL.take k) ++ catS (LL.drop k) := by unfold catS; rw [← List.flatMap_append, List.take_append_drop]
  rw [this, List.length_append]; omega
theorem catS_succ (LL : List (Option Addr × Nat × List (List UInt8))) (k : Nat) (x : Option Addr × Nat × List (List UInt8)) (h : LL[k]? = some x) : catS (LL.take (k + 1)) = catS (LL.take k) ++ x.2.2 := by
  obtain ⟨h1, h2⟩ := List.getElem?_eq_some_iff.1 h
  rw [List.take_succ_eq_append_getElem h1, h2]
  simp [catS]
/-- The slices that are put together lie in w. -/
structure CatSn (LL : List (Option Addr × Nat × List (List UInt8))) (bb : Nat) (w : World) : Prop where
  cell : ∀ i x, LL[i]? = some x → w.cell? ⟨bb, i, none⟩ = some (.slice x.1 x.2.2.length x.2.1)
  lt : bb < w.heap.size
  rd : ∀ x ∈ LL, RdS w x.1 x.2.2
  cap : ∀ x ∈ LL, x.2.2.length ≤ x.2.1 ∧ (x.1 = none → x.2.1 = 0)
theorem CatSn.gr0 {LL : List (Option Addr × Nat × List (List UInt8))} {bb : Nat} {w w' : World} (h : CatSn LL bb w) (g : Gr [] w w') : CatSn LL bb w' :=
  ⟨fun i x hx => by rw [g.cell0 h.lt]; exact h.cell i x hx, Nat.lt_of_lt_of_le h.lt g.size, fun x hx => (h.rd x hx).gr0 g, h.cap⟩

set_option maxRecDepth 20000 in
set_option maxHeartbeats 2000000 in
theorem sconcat_any (LL : List (Option Addr × Nat × List (List UInt8))) (bb cp : Nat) (w : World) (h : CatSn LL bb w) (hL : LL.length ≤ 100) (hS : (catS LL).length ≤ 1000000) :
    Calls Try.prog 22 #[.slice (some ⟨bb, 0, none⟩) LL.length cp] w fun e w' => ∃ v, e = .returned v ∧ w'.ownsRow w.heap.size 9 1 v (catS LL).length (cellsS (catS LL)) ∧ Gr [] w w' := by
  obtain ⟨i0, hi, hz0, hz1, hz2⟩ := info_parts infoStr
  have H := Lib.hid h
  have HS := Lib.hid hS
  clear h hS
  obtain ⟨n, hn⟩ : ∃ n, n = LL.length := ⟨_, rfl⟩
  rw [← hn] at hL ⊢
  have HN := Lib.hid hn
  clear hn
  have HG := Lib.hid sgrow_any
  go_enter Try.func22, Try.ntmps22
  go_wp2_with fail
  go_loopw [3, 11] (fun s i wr => ∃ k : Nat, k ≤ n ∧ s = .int .i64 ((catS (LL.take k)).length : Nat) ∧ i = .int .i64 k ∧ w = wr) (fun _ i _ => n - (intOf i).toNat)
  case atStart => exact ⟨0, by omega, by simp [catS], rfl, rfl⟩
  case round =>
    obtain ⟨k, hk, rfl, rfl, rfl⟩ := hrel
    by_cases hlt : k < n
    · obtain ⟨x, hx⟩ : ∃ x, LL[k]? = some x := ⟨_, List.getElem?_eq_getElem (by have := HN.out; omega)⟩
      have c1 := H.out.cell k x hx
      have q := catS_succ LL k x hx
      have q1 := catS_len_take LL (k + 1)
      have q2 := HS.out
      have q3 : (catS (LL.take (k + 1))).length = (catS (LL.take k)).length + x.2.2.length := by rw [q, List.length_append]
      have HE := Lib.hid q3
      obtain ⟨m, hm⟩ : ∃ m, m = (catS (LL.take k)).length := ⟨_, rfl⟩
      obtain ⟨m2, hm2⟩ : ∃ m2, m2 = x.2.2.length := ⟨_, rfl⟩
      rw [← hm, ← hm2] at q3 HE
      rw [← hm2] at c1
      rw [← hm]
      have b1 : m + m2 ≤ 1000000 := by omega
      clear q q1 q2 q3 hx hm hm2
      go_wp2
      go_roundw
      case rel => exact ⟨k + 1, by omega, by rw [HE.out]; go_num, by go_num, by first | rfl | trivial⟩
      case measure => simp [intOf]; omega
    · obtain rfl : k = n := by omega
      have HE := Lib.hid (show catS (LL.take k) = catS LL by rw [HN.out, List.take_length])
      rw [HE.out]
      obtain ⟨m, hm⟩ : ∃ m, m = (catS LL).length := ⟨_, rfl⟩
      rw [← hm]
      have b1 : m ≤ 1000000 := by rw [hm]; exact HS.out
      have HM := Lib.hid hm
      clear hm
      go_wp2_with fail
      refine (HG.out m _ b1).mono ?_
      rintro e w1 ⟨v, rfl, ho, g⟩
      have HO := Lib.hid (And.intro ho g)
      clear ho g
      go_wp2_with fail
      go_loopw [6, 27] (fun s i wa => ∃ k' : Nat, k' ≤ k ∧ i = .int .i64 k' ∧ wa.ownsRow w.heap.size 9 1 s (catS (LL.take k')).length (cellsS (catS (LL.take k'))) ∧ Gr [] w wa) (fun _ i _ => k - (intOf i).toNat)
      case atStart => exact ⟨0, by omega, rfl, by simpa [catS, cellsS] using HO.out.1, HO.out.2⟩
      case round =>
        obtain ⟨k', hk', rfl, ho, g⟩ := hrel
        have HO := Lib.hid (And.intro ho g)
        clear ho g
        by_cases hlt : k' < k
        · obtain ⟨x, hx⟩ : ∃ x, LL[k']? = some x := ⟨_, List.getElem?_eq_getElem (by have := HN.out; omega)⟩
          have c1 := (H.out.gr0 HO.out.2).cell k' x hx
          have q := catS_succ LL k' x hx
          have q1 := catS_len_take LL (k' + 1)
          have q3 : (catS (LL.take (k' + 1))).length = (catS (LL.take k')).length + x.2.2.length := by rw [q, List.length_append]
          have hb1 : (catS (LL.take k')).length + x.2.2.length ≤ 1000000 := by have := HM.out; omega
          have hrd := (H.out.gr0 HO.out.2).rd x (List.mem_of_getElem? hx)
          have hcap := H.out.cap x (List.mem_of_getElem? hx)
          have HE := Lib.hid q
          have HB := Lib.hid hb1
          obtain ⟨xa, xc, xl⟩ := x
          simp only at c1 hrd hcap
          clear q q1 q3 hb1 hx
          cases xa with
          | none =>
            obtain rfl := hcap.2 rfl
            have h0 : xl = [] := List.length_eq_zero_iff.1 (by omega)
            subst h0
            have c2 : wr.cell? ⟨bb, k', none⟩ = some (.slice none 0 0) := c1
            clear c1 hrd hcap
            obtain ⟨ao2, cp2, hs2⟩ := own_form HO.out.1
            subst hs2
            go_wp2_with (at_builtin; refine wpList_append_own_none rfl _ _ 22 rfl w.heap.size 9 i0 1 Try.underlying22 hi _ _ _ rfl HO.out.1 rfl ?_)
            have HF := Lib.hid (show catS (LL.take (k' + 1)) = catS (LL.take k') by have := HE.out; simp only [List.append_nil] at this; exact this)
            go_roundw
            case rel => exact ⟨k' + 1, by omega, by go_num, by rw [HF.out]; exact HO.out.1, HO.out.2⟩
            case measure => simp [intOf]; omega
          | some a =>
            have HR := Lib.hid (And.intro (hrd.cells rfl) (And.intro (cellsS_len xl) (cellsS_one xl)))
            obtain ⟨m2, hm2⟩ : ∃ m2, m2 = xl.length := ⟨_, rfl⟩
            rw [← hm2] at c1 HR HB
            have HM2 := Lib.hid hm2
            clear hrd hcap hm2
            go_wp2_with (at_builtin; refine wpList_append_own _ rfl _ _ 22 rfl w.heap.size 9 i0 _ 1 16 Try.underlying22 hi hz0 hz1 hz2 rfl (by decide) _ _ _ rfl HO.out.1 a m2 _ (cellsS xl) rfl HR.out.2.1 HR.out.1 HR.out.2.2 (by have := HB.out; unfold maxLen; omega) (by have := HB.out; omega) HO.out.2.size ?_)
            intro v' w1 hown' hgrow _
            have hlt2 := HO.out.1.lt
            have HF := Lib.hid (show w1.ownsRow w.heap.size 9 1 v' (catS (LL.take (k' + 1))).length (cellsS (catS (LL.take (k' + 1)))) ∧ Gr [] w w1 by
              refine ⟨?_, HO.out.2.grown hgrow (fun j hj => .inr (hlt2 j hj).1)⟩
              rw [HE.out, cellsS_append, List.length_append]
              show w1.ownsRow _ _ _ _ (_ + xl.length) _
              rw [← HM2.out]
              exact hown')
            clear hown' hgrow hlt2
            go_wp2
            go_roundw
            case rel => exact ⟨k' + 1, by omega, by go_num, HF.out.1, HF.out.2⟩
            case measure => simp [intOf]; omega
        · obtain rfl : k' = k := by omega
          have HE2 := Lib.hid (show catS (LL.take k') = catS LL by rw [HN.out, List.take_length])
          go_wp2_with fail
          go_ret
          exact ⟨_, rfl, by rw [← HE2.out, HM.out, ← HE2.out]; exact HO.out.1, HO.out.2⟩


end Go.Proofs.Ytnmenihahgggmaa
