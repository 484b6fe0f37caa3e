/-
  alloc: List (slices.Clone), slices.Concat, with.
-/
import Derived.Test.YtpkhfdcokcchdaaAlL
import Derived.Laws.AppendOwnNone
import Derived.WalkSpells
namespace Go.Proofs.Ytpkhfdcokcchdaa
open Go.RowKit

theorem infoExt : (Try.prog.info? 35).map (fun i => (i.zero, i.size, i.bytes)) = some (some (.agg #[.int .i64 0, .int .i64 0]), 2, 16) := by kernel_rfl
set_option maxHeartbeats 1000000 in
theorem aclone_any (ao : Option Addr) (l : List (Int × Int)) (cap : Nat) (w : World) (h : Rd2 w ao l) (hl : l.length ≤ 70000) (hc : l.length ≤ cap) (hn : ao = none → cap = 0) :
    Calls Try.prog 78 #[.slice ao l.length cap] w fun e w' => ∃ v, e = .returned v ∧ w'.ownsRow w.heap.size 35 2 v l.length (cells2 l) ∧ Gr [] w w' := by
  obtain ⟨i0, hi, hz0, hz1, hz2⟩ := info_parts infoExt
  have hcells := cells2_len l
  have hone := cells2_one l
  cases ao with
  | none =>
    obtain rfl := hn rfl
    have h0 : l = [] := List.length_eq_zero_iff.1 (by omega)
    subst h0
    have he := fun (W : World) => Lib.run_eql_slice_nil (P := Try.prog) W 23 35 none 0 0 0 0 Try.underlying23
    go_enter Try.func78, Try.ntmps78
    go_wp2_with fail
    go_ret
    exact ⟨_, rfl, World.ownsRow_nil _ _ _ _, Gr.refl _ _⟩
  | some a =>
    have hr := (h.gr0 ((Gr.refl _ w).alloc (Obj.cells #[] 35))).cells rfl
    have HN := Lib.hid (And.intro hr (And.intro hcells hone))
    clear hr hcells hone h
    have he := fun (W : World) (n c : Nat) => Lib.run_eql_slice_nil (P := Try.prog) W 23 35 (some a) n c 0 0 Try.underlying23
    obtain ⟨n, hn2⟩ : ∃ n, n = l.length := ⟨_, rfl⟩
    rw [← hn2] at HN hl ⊢
    clear hn2
    have hown := World.ownsRow_made (base := w.heap.size) (e := 35) (size := 2) w #[] 0 (Nat.le_refl _) (Nat.zero_le _) rfl
    have HR := Lib.hid hown
    clear hown
    go_enter Try.func78, Try.ntmps78
    go_wp2_with (at_builtin; refine wpList_append_own _ rfl _ _ 23 rfl w.heap.size 35 i0 _ 2 16 Try.underlying23 hi hz0 hz1 hz2 rfl (by decide) _ _ _ rfl HR.out a n cap (cells2 l) rfl ?c1 ?c2 ?c3 ?c4 ?c5 ?c6 ?_)
    case c1 => exact HN.out.2.1
    case c2 => exact HN.out.1
    case c3 => exact HN.out.2.2
    case c4 => unfold maxLen; omega
    case c5 => omega
    case c6 => simp
    intro v' w1 hown' hgrow _
    have HF := Lib.hid (And.intro hown' hgrow)
    clear hown' hgrow
    go_wp2_with fail
    go_ret
    exact ⟨_, rfl, HF.out.1, ((Gr.refl [] w).alloc _).grown HF.out.2 (fun k hk => .inr (by simp [Value.ownBlock] at hk; omega))⟩

theorem agrow_any (n : Nat) (w : World) (hn : n ≤ 1000000) :
    Calls Try.prog 118 #[.slice none 0 0, .int .i64 n] w fun e w' => ∃ v, e = .returned v ∧ w'.ownsRow w.heap.size 35 2 v 0 [] ∧ Gr [] w w' := by
  by_cases h0 : n = 0
  · subst h0
    refine (Any8.slices_Grow_room AlB.grow none 0 0 0 w (by omega) (by omega) (by omega) (by omega)).mono ?_
    rintro e w' ⟨rfl, rfl⟩
    exact ⟨_, rfl, World.ownsRow_nil _ _ _ _, Gr.refl _ _⟩
  · obtain ⟨i0, hi, hz0, hz1, hz2⟩ := info_parts infoExt
    refine (Any8.slices_Grow_grow AlB.grow i0 _ hi hz0 (by omega) none 0 0 n [] w (by omega) (by omega) (by rw [hz2]; omega) (by omega) (by simp) (fun _ => rfl) (fun a ha => by cases ha)).mono ?_
    rintro e w' ⟨rfl, rfl⟩
    have hge : n ≤ grownCap w (0 + n) 0 35 := by have := grownCap_ge w (0 + n) 0 35; omega
    have hle := grownCap_le_maxLen w (0 + n) 0 35 (by unfold maxLen; omega)
    refine ⟨_, rfl, World.ownsRow_made (base := w.heap.size) (size := 2) w.drew _ _ (Nat.le_refl _) hle ?_, (Gr.refl [] w).drew.alloc _⟩
    have hz : ∀ k, (Builtin.zeroCells (Value.cells (.agg #[.int .i64 0, .int .i64 0])) k).size = k * 2 := fun k => by
      simp [Builtin.zeroCells, Value.cells]
    rw [Array.size_append, Array.size_append, hz, hz]
    show 0 + (0 + n - 0) * 2 + (grownCap w (0 + n) 0 35 - (0 + n)) * 2 = grownCap w (0 + n) 0 35 * 2
    omega

/-! ### Concat -/
def catP (LL : List (Option Addr × Nat × List (Int × Int))) : List (Int × Int) := LL.flatMap fun x => x.2.2
theorem catP_len_take (LL : List (Option Addr × Nat × List (Int × Int))) (k : Nat) : (catP (LL.take k)).length ≤ (catP LL).length := by
  have : catP LL = catP (LL.take k) ++ catP (LL.drop k) := by unfold catP; rw [← List.flatMap_append, List.take_append_drop]
  rw [this, List.length_append]; omega
theorem catP_succ (LL : List (Option Addr × Nat × List (Int × Int))) (k : Nat) (x : Option Addr × Nat × List (Int × Int)) (h : LL[k]? = some x) : catP (LL.take (k + 1)) = catP (LL.take k) ++ x.2.2 := by
  obtain ⟨h1, h2⟩ := List.getElem?_eq_some_iff.1 h
  rw [List.take_succ_eq_append_getElem h1, h2]
  simp [catP]
/-- The slices that are put together lie in w. -/
structure CatIn (LL : List (Option Addr × Nat × List (Int × Int))) (bb : Nat) (w : World) : Prop where
  cell : ∀ i x, LL[i]? = some x → w.cell? ⟨bb, i, none⟩ = some (.slice x.1 x.2.2.length x.2.1)
  lt : bb < w.heap.size
  rd : ∀ x ∈ LL, Rd2 w x.1 x.2.2
  cap : ∀ x ∈ LL, x.2.2.length ≤ x.2.1 ∧ (x.1 = none → x.2.1 = 0)
theorem CatIn.gr0 {LL : List (Option Addr × Nat × List (Int × Int))} {bb : Nat} {w w' : World} (h : CatIn LL bb w) (g : Gr [] w w') : CatIn LL bb w' :=
  ⟨fun i x hx => by rw [g.cell0 h.lt]; exact h.cell i x hx, Nat.lt_of_lt_of_le h.lt g.size, fun x hx => (h.rd x hx).gr0 g, h.cap⟩

set_option maxRecDepth 20000 in
set_option maxHeartbeats 2000000 in
theorem aconcat_any (LL : List (Option Addr × Nat × List (Int × Int))) (bb cp : Nat) (w : World) (h : CatIn LL bb w) (hL : LL.length ≤ 100) (hS : (catP LL).length ≤ 1000000) :
    Calls Try.prog 110 #[.slice (some ⟨bb, 0, none⟩) LL.length cp] w fun e w' => ∃ v, e = .returned v ∧ w'.ownsRow w.heap.size 35 2 v (catP LL).length (cells2 (catP LL)) ∧ Gr [] w w' := by
  obtain ⟨i0, hi, hz0, hz1, hz2⟩ := info_parts infoExt
  have H := Lib.hid h
  have HS := Lib.hid hS
  clear h hS
  obtain ⟨n, hn⟩ : ∃ n, n = LL.length := ⟨_, rfl⟩
  rw [← hn] at hL ⊢
  have HN := Lib.hid hn
  clear hn
  have HG := Lib.hid agrow_any
  go_enter Try.func110, Try.ntmps110
  go_wp2_with fail
  go_loopw [3, 11] (fun s i wr => ∃ k : Nat, k ≤ n ∧ s = .int .i64 ((catP (LL.take k)).length : Nat) ∧ i = .int .i64 k ∧ w = wr) (fun _ i _ => n - (intOf i).toNat)
  case atStart => exact ⟨0, by omega, by simp [catP], rfl, rfl⟩
  case round =>
    obtain ⟨k, hk, rfl, rfl, rfl⟩ := hrel
    by_cases hlt : k < n
    · obtain ⟨x, hx⟩ : ∃ x, LL[k]? = some x := ⟨_, List.getElem?_eq_getElem (by have := HN.out; omega)⟩
      have c1 := H.out.cell k x hx
      have q := catP_succ LL k x hx
      have q1 := catP_len_take LL (k + 1)
      have q2 := HS.out
      have q3 : (catP (LL.take (k + 1))).length = (catP (LL.take k)).length + x.2.2.length := by rw [q, List.length_append]
      have HE := Lib.hid q3
      obtain ⟨m, hm⟩ : ∃ m, m = (catP (LL.take k)).length := ⟨_, rfl⟩
      obtain ⟨m2, hm2⟩ : ∃ m2, m2 = x.2.2.length := ⟨_, rfl⟩
      rw [← hm, ← hm2] at q3 HE
      rw [← hm2] at c1
      rw [← hm]
      have b1 : m + m2 ≤ 1000000 := by omega
      clear q q1 q2 q3 hx hm hm2
      go_wp2
      go_roundw
      case rel => exact ⟨k + 1, by omega, by rw [HE.out]; go_num, by go_num, by first | rfl | trivial⟩
      case measure => simp [intOf]; omega
    · obtain rfl : k = n := by omega
      have HE := Lib.hid (show catP (LL.take k) = catP LL by rw [HN.out, List.take_length])
      rw [HE.out]
      obtain ⟨m, hm⟩ : ∃ m, m = (catP LL).length := ⟨_, rfl⟩
      rw [← hm]
      have b1 : m ≤ 1000000 := by rw [hm]; exact HS.out
      have HM := Lib.hid hm
      clear hm
      go_wp2_with fail
      refine (HG.out m _ b1).mono ?_
      rintro e w1 ⟨v, rfl, ho, g⟩
      have HO := Lib.hid (And.intro ho g)
      clear ho g
      go_wp2_with fail
      go_loopw [6, 27] (fun s i wa => ∃ k' : Nat, k' ≤ k ∧ i = .int .i64 k' ∧ wa.ownsRow w.heap.size 35 2 s (catP (LL.take k')).length (cells2 (catP (LL.take k'))) ∧ Gr [] w wa) (fun _ i _ => k - (intOf i).toNat)
      case atStart => exact ⟨0, by omega, rfl, by simpa [catP, cells2] using HO.out.1, HO.out.2⟩
      case round =>
        obtain ⟨k', hk', rfl, ho, g⟩ := hrel
        have HO := Lib.hid (And.intro ho g)
        clear ho g
        by_cases hlt : k' < k
        · obtain ⟨x, hx⟩ : ∃ x, LL[k']? = some x := ⟨_, List.getElem?_eq_getElem (by have := HN.out; omega)⟩
          have c1 := (H.out.gr0 HO.out.2).cell k' x hx
          have q := catP_succ LL k' x hx
          have q1 := catP_len_take LL (k' + 1)
          have q3 : (catP (LL.take (k' + 1))).length = (catP (LL.take k')).length + x.2.2.length := by rw [q, List.length_append]
          have hb1 : (catP (LL.take k')).length + x.2.2.length ≤ 1000000 := by have := HM.out; omega
          have hrd := (H.out.gr0 HO.out.2).rd x (List.mem_of_getElem? hx)
          have hcap := H.out.cap x (List.mem_of_getElem? hx)
          have HE := Lib.hid q
          have HB := Lib.hid hb1
          obtain ⟨xa, xc, xl⟩ := x
          simp only at c1 hrd hcap
          clear q q1 q3 hb1 hx
          cases xa with
          | none =>
            obtain rfl := hcap.2 rfl
            have h0 : xl = [] := List.length_eq_zero_iff.1 (by omega)
            subst h0
            have c2 : wr.cell? ⟨bb, k', none⟩ = some (.slice none 0 0) := c1
            clear c1 hrd hcap
            go_wp2_with (at_builtin; refine wpList_append_own_none rfl _ _ 23 rfl w.heap.size 35 i0 2 Try.underlying23 hi _ _ _ rfl HO.out.1 rfl ?_)
            have HF := Lib.hid (show catP (LL.take (k' + 1)) = catP (LL.take k') by have := HE.out; simp only [List.append_nil] at this; exact this)
            go_roundw
            case rel => exact ⟨k' + 1, by omega, by go_num, by rw [HF.out]; exact HO.out.1, HO.out.2⟩
            case measure => simp [intOf]; omega
          | some a =>
            have HR := Lib.hid (And.intro (hrd.cells rfl) (And.intro (cells2_len xl) (cells2_one xl)))
            obtain ⟨m2, hm2⟩ : ∃ m2, m2 = xl.length := ⟨_, rfl⟩
            rw [← hm2] at c1 HR HB
            have HM2 := Lib.hid hm2
            clear hrd hcap hm2
            go_wp2_with (at_builtin; refine wpList_append_own _ rfl _ _ 23 rfl w.heap.size 35 i0 _ 2 16 Try.underlying23 hi hz0 hz1 hz2 rfl (by decide) _ _ _ rfl HO.out.1 a m2 _ (cells2 xl) rfl HR.out.2.1 HR.out.1 HR.out.2.2 (by have := HB.out; unfold maxLen; omega) (by have := HB.out; omega) HO.out.2.size ?_)
            intro v' w1 hown' hgrow _
            have hlt2 := HO.out.1.lt
            have HF := Lib.hid (show w1.ownsRow w.heap.size 35 2 v' (catP (LL.take (k' + 1))).length (cells2 (catP (LL.take (k' + 1)))) ∧ Gr [] w w1 by
              refine ⟨?_, HO.out.2.grown hgrow (fun j hj => .inr (hlt2 j hj).1)⟩
              rw [HE.out, cells2_append, List.length_append]
              show w1.ownsRow _ _ _ _ (_ + xl.length) _
              rw [← HM2.out]
              exact hown')
            clear hown' hgrow hlt2
            go_wp2
            go_roundw
            case rel => exact ⟨k' + 1, by omega, by go_num, HF.out.1, HF.out.2⟩
            case measure => simp [intOf]; omega
        · obtain rfl : k' = k := by omega
          have HE2 := Lib.hid (show catP (LL.take k') = catP LL by rw [HN.out, List.take_length])
          go_wp2_with fail
          go_ret
          exact ⟨_, rfl, by rw [← HE2.out, HM.out, ← HE2.out]; exact HO.out.1, HO.out.2⟩

end Go.Proofs.Ytpkhfdcokcchdaa
