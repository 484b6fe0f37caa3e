/-
  TaAp: TrR, TrS, TrT.
-/
import Derived.Test.YtgleopahldpajaaGreatTaAo
import Derived.Test.YtgleopahldpajaaGreatTaAm
import Derived.RangeFuncNested
import Derived.RangeFuncBox
import Derived.Shelf.SlSortCmp.NoneTotal

set_option linter.unusedVariables false

/-
  Layer 19 (tree): changed names, taken out of their map.
-/
set_option linter.unusedSimpArgs false
namespace Go.Proofs.YtgleopahldpajaaGreat
open Go.RowKit Go.Shelf
open Go.Maps (Keyed has)
set_option linter.unusedVariables false
set_option maxRecDepth 100000 in
theorem keyInt_inv {m : Nat} {c : Value} {ls : List Lit} (h : Tryz.prog.keyLits (m + 1) 3 [c] = some ls) : ∃ z, c = .int .i64 z ∧ WfZ z := by
  unfold Program.keyLits at h
  have hi := Tryz.underlying3
  simp only [hi] at h
  cases c with
  | int k z =>
    simp at h
    obtain ⟨⟨rfl, hz⟩, _⟩ := h
    exact ⟨z, rfl, hz⟩
  | _ => simp at h
set_option maxRecDepth 100000 in
theorem keyStr_inv {m : Nat} {c : Value} {ls : List Lit} (h : Tryz.prog.keyLits (m + 1) 9 [c] = some ls) : ∃ s, c = .string s ∧ s.size ≤ maxLen := by
  unfold Program.keyLits at h
  have hi := Tryz.underlying9
  simp only [hi] at h
  cases c with
  | string s =>
    simp at h
    exact ⟨s, rfl, h.1⟩
  | _ => simp at h
set_option maxRecDepth 100000 in
theorem spot_inv {key : Value} {kl : Lit} (h : keyOf Tryz.prog 135 key = some kl) : ∃ x : Int × ByteArray, key = .agg #[.int .i64 x.1, .string x.2] ∧ WfZ x.1 ∧ x.2.size ≤ maxLen ∧ kl = spK x.1 x.2 := by
  have hu := Tryz.underlying135
  have hi := Tryz.underlying3
  have hst := Tryz.underlying9
  have hc : Tryz.prog.cellsOf 135 = 2 := by kernel_rfl
  have hc1 : Tryz.prog.cellsOf 3 = 1 := by kernel_rfl
  have hc2 : Tryz.prog.cellsOf 9 = 1 := by kernel_rfl
  have ht : Tryz.prog.keyType 135 = true := by kernel_rfl
  obtain ⟨m, hm⟩ := spot_types
  have h0 := h
  unfold keyOf at h
  rw [hu] at h
  simp only [ht, Bool.true_and] at h
  split at h
  · rename_i hf
    cases key with
    | agg cs =>
      have hs : cs.size = 2 := by
        have : (cs.size == Tryz.prog.cellsOf 135) = true := by simpa [Value.formed, hu] using hf
        rw [hc] at this
        simpa using this
      obtain ⟨l⟩ := cs
      match l, hs with
      | [c0, c1], _ =>
        rw [hm] at h
        unfold Program.keyLits at h
        rw [hu] at h
        simp only [Value.cells] at h
        rw [hc] at h
        cases q1 : Tryz.prog.keyLits (m + 1) 3 [c0] with
        | none => simp [hc1, hc2, q1, List.mapM_cons, List.mapM_nil] at h
        | some l1 =>
          cases q2 : Tryz.prog.keyLits (m + 1) 9 [c1] with
          | none => simp [hc1, hc2, q1, q2, List.mapM_cons, List.mapM_nil] at h
          | some l2 =>
            obtain ⟨z, rfl, hz⟩ := keyInt_inv q1
            obtain ⟨s, rfl, hs2⟩ := keyStr_inv q2
            refine ⟨(z, s), rfl, hz, hs2, ?_⟩
            have := spot_key (x := z) (s := s) hz hs2
            rw [this] at h0
            injection h0 with h0
            exact h0.symm
    | _ => simp [Value.formed, hu] at hf
  · cases h
theorem spK_same {x y : Int × ByteArray} (hx : WfZ x.1) (hy : WfZ y.1) (hxs : x.2.size ≤ maxLen) (hys : y.2.size ≤ maxLen) : (spK x.1 x.2).sameKey (spK y.1 y.2) = decide (x = y) := by
  by_cases h : x = y
  · subst h
    rw [decide_eq_true rfl]
    exact WideAt.sameKey_self (by simp [WideAt.IsKeyLit, spK])
  · rw [decide_eq_false h]
    exact Maps.sameKey_ne fun e => h (by
      obtain ⟨e1, e2⟩ := spK_inj hx hy hxs hys e
      exact Prod.ext e1 e2)
/-- What has come so far. -/
structure Came (D : DataW Unit) (left : Lit → Bool) (ss : List (Int × ByteArray)) : Prop where
  nd : ss.Nodup
  wf : ∀ p ∈ ss, WfZ p.1 ∧ p.2.size ≤ maxLen
  mem : ∀ p : Int × ByteArray, WfZ p.1 → p.2.size ≤ maxLen → (p ∈ ss ↔ has D (spK p.1 p.2) = true ∧ left (spK p.1 p.2) = false)
/-- All keys, in some order. -/
structure AllSp (D : DataW Unit) (ss : List (Int × ByteArray)) : Prop where
  nd : ss.Nodup
  wf : ∀ p ∈ ss, WfZ p.1 ∧ p.2.size ≤ maxLen
  mem : ∀ p : Int × ByteArray, WfZ p.1 → p.2.size ≤ maxLen → (p ∈ ss ↔ has D (spK p.1 p.2) = true)
  len : ss.length ≤ Maps.size D
theorem Came.step {D : DataW Unit} {left : Lit → Bool} {ss : List (Int × ByteArray)} (h : Came D left ss) {x : Int × ByteArray} (hx : WfZ x.1) (hs : x.2.size ≤ maxLen) (hl : left (spK x.1 x.2) = true) (hh : has D (spK x.1 x.2) = true) :
    Came D (fun z => left z && !z.sameKey (spK x.1 x.2)) (ss ++ [x]) := by
  have hnot : x ∉ ss := fun e => by have := ((h.mem x hx hs).1 e).2; rw [hl] at this; cases this
  refine ⟨?_, fun p hp => ?_, fun p h1 h2 => ?_⟩
  · rw [List.nodup_append]
    exact ⟨h.nd, by simp, fun a ha b hb e => by rw [List.mem_singleton] at hb; exact hnot (by rw [← hb, ← e]; exact ha)⟩
  · rcases List.mem_append.1 hp with hp | hp
    · exact h.wf p hp
    · rw [List.mem_singleton] at hp; rw [hp]; exact ⟨hx, hs⟩
  · rw [List.mem_append, List.mem_singleton, h.mem p h1 h2]
    show _ ↔ has D (spK p.1 p.2) = true ∧ (left (spK p.1 p.2) && !(spK p.1 p.2).sameKey (spK x.1 x.2)) = false
    rw [spK_same h1 hx h2 hs]
    by_cases e : p = x
    · subst e; simp [hh]
    · simp [e]
set_option maxRecDepth 100000 in
set_option maxHeartbeats 2000000 in
theorem spotKeys1_in (n : Nat) (hn : 1 ≤ n) (l Bm b nn : Nat) (D0 : DataW Unit) (J Jx : List (Int × ByteArray) → World → Prop)
    (hY : ∀ pre x W, J pre W → pre.length < Maps.size D0 → YieldAt Fence.wide (n - 1) Tryz.prog l #[.agg #[.int .i64 x.1, .string x.2]] W fun e W' =>
      (e = .returned (.bool true) ∧ J (pre ++ [x]) W' ∧ KeepsWalks W W') ∨ (e = .returned (.bool false) ∧ Jx (pre ++ [x]) W'))
    (W : World) (hJ : AbidesFrom W.heap.size J) (hm : W.cell? ⟨Bm, 0, none⟩ = some (.map (some b))) (hown : W.ownsMap Tryz.prog 135 setE.R b nn D0) (h0 : J [] W) :
    CallsIn Fence.wide n Tryz.prog 113 #[.func (.yield l) #[] #[], .pointer (some ⟨Bm, 0, none⟩)] W fun e W' => (∃ v, e = .returned v) ∧
      ((∃ ys, AllSp D0 ys ∧ J ys W') ∨ (∃ pre, True ∧ Jx pre W')) := by
  refine callsIn_of_wp Tryz.func113 rfl trivial ?_ rfl
  simp only [Tryz.ntmps113, List.size_toArray, List.length_cons, List.length_nil, Nat.reduceAdd, Nat.reduceSub, Array.replicate_succ, Array.replicate_zero, List.push_toArray, List.append_toArray, List.nil_append, List.cons_append]
  gi_wp2_with (first
    | (gi_at_range; refine wpListIn_range_own _ rfl _ 128 rfl 135 139 spot_keyed Tryz.underlying128 _ b nn _ rfl hown ?_; intro w0 hrg0 hg0 hs0)
    | gi_in)
  go_frame
  gi_loopw [3] (fun _ wr => ∃ (left : Lit → Bool) (cnt : Nat) (ss : List (Int × ByteArray)), wr.ranges Tryz.prog 135 setE.R b W.heap.size nn D0 left cnt ∧ ss.length + cnt ≤ Maps.size D0 ∧ Came D0 left ss ∧ J ss wr)
    (fun _ wr => wr.rangeLeft b W.heap.size)
  case atStart =>
    exact ⟨_, _, [], hrg0, by simp, ⟨List.nodup_nil, (fun p hp => by cases hp), (fun p h1 h2 => by simp)⟩, hJ [] W w0 none h0 hg0 (fun r e => by cases e)⟩
  case round =>
    obtain ⟨left, cnt, ss, hrg, hcs, hC, hJs⟩ := hrel
    gi_wp2_with (first
      | (gi_at_next; refine wpListIn_next_ranges _ rfl _ rfl 135 spot_keyed setE.R (fun x : Int × ByteArray => Value.agg #[.int .i64 x.1, .string x.2]) setVal (fun key kl hk => by obtain ⟨x, hx, _⟩ := spot_inv hk; exact ⟨x, hx⟩) (fun v y hv => by obtain ⟨c, hc, _⟩ := setR_inv v y hv; exact ⟨c, hc⟩) b W.heap.size nn _ _ _ rfl hrg ?_ ?_)
      | gi_in)
    · intro hc0 hl0
      gi_wp2
      go_end0
      exact ⟨⟨_, rfl⟩, .inl ⟨ss, ⟨hC.nd, hC.wf, fun p h1 h2 => (by rw [hC.mem p h1 h2, hl0]; simp), by omega⟩, hJs⟩⟩
    · intro x1 x2 c kl yd yp w2 cnt2 hkey hlk hv hat hrg2 hlt hg2 hs2 hen
      obtain ⟨y, ey, hy1, hy2, rfl⟩ := spot_inv hkey
      obtain rfl : (x1, x2) = y := by
        simp only [Value.agg.injEq, Array.mk.injEq, List.cons.injEq, Value.int.injEq, Value.string.injEq, true_and, and_true] at ey
        exact Prod.ext ey.1 ey.2
      have hJ2 : J ss w2 := hJ ss wr w2 (some W.heap.size) hJs hg2 (fun r e => by cases e; exact ⟨Nat.le_refl _, hrg.iter_walk⟩)
      have hh : has D0 (spK x1 x2) = true := Maps.has_true_of_atKey (y := yd) hat
      have hC2 := hC.step hy1 hy2 hlk hh
      obtain ⟨w3, hw3⟩ : ∃ w3, w3 = w2.alloc (.cells #[.int .i64 x1, .string x2] 135) := ⟨_, rfl⟩
      have hJ3 : J ss w3 := by rw [hw3]; exact hJ ss w2 _ none hJ2 (World.grownBy_alloc w2 _ none) (fun r e => by cases e)
      have hrg3 : w3.ranges Tryz.prog 135 setE.R b W.heap.size nn D0 (fun z => left z && !z.sameKey (spK x1 x2)) cnt2 := by rw [hw3]; exact hrg2.of_walks (KeepsWalks.alloc _ _)
      subst hw3
      obtain ⟨fn, tmps, assign, body, hy, hR⟩ := hY ss (x1, x2) _ hJ3 (by omega)
      have hlt2 := hlt
      clear hs2 hat hv hkey hlt
      gi_wp2
      refine hR.mono ?_
      rintro e W3 (⟨rfl, hJ4, hk4⟩ | ⟨rfl, hJx4⟩)
      · gi_wp2
        have hrg4 := hrg3.of_walks hk4
        go_roundw
        case rel => exact ⟨_, cnt2, ss ++ [(x1, x2)], hrg4, by simp; omega, hC2, hJ4⟩
        case measure => rw [hrg4.left_eq, hrg.left_eq]; exact hlt2
      · gi_wp2
        refine bodyPost_ret (results_none rfl _ _ _) rfl ?_
        exact ⟨⟨_, rfl⟩, .inr ⟨_, trivial, hJx4⟩⟩
end Go.Proofs.YtgleopahldpajaaGreat

/-
  Layer 19 (tree): changed names, collected.
-/
namespace Go.Proofs.YtgleopahldpajaaGreat
open Go.RowKit Go.Shelf
open Go.Maps (Keyed has)
set_option linter.unusedVariables false
theorem spotKeys_stops (n : Nat) (hn : 1 ≤ n) (Bm b nn : Nat) (D0 : DataW Unit) (w : World) (hBm : Bm < w.heap.size) (hc : w.cell? ⟨Bm, 0, none⟩ = some (.map (some b))) (hown : w.ownsMap Tryz.prog 135 setE.R b nn D0) :
    SeqStopsK Fence.wide n Tryz.prog 113 #[.pointer (some ⟨Bm, 0, none⟩)] (fun x : Int × ByteArray => #[Value.agg #[.int .i64 x.1, .string x.2]]) KeepsWalks (AllSp D0) (fun _ => True) (Maps.size D0) w := fun l J Jx W hW hJ _ hY h0 => by
  have hown' : W.ownsMap Tryz.prog 135 setE.R b nn D0 := by
    have hbl := hown.lt
    obtain ⟨es, clock, hb, Ft, hs, hD⟩ := hown
    exact ⟨es, clock, (hW.block b hbl).trans hb, Ft, hs, hD⟩
  exact spotKeys1_in n hn l Bm b nn D0 J Jx hY W hJ ((hW.cell (p := ⟨Bm, 0, none⟩) hBm).trans hc) hown' h0
theorem infoSp : (Tryz.prog.info? 135).map (fun i => (i.zero, i.size, i.bytes)) = some (some (.agg #[.int .i64 0, .string ⟨#[]⟩]), 2, 24) := by kernel_rfl
set_option maxRecDepth 100000 in
set_option maxHeartbeats 4000000 in
theorem append_sp (Bm : Nat) (D0 : DataW Unit) (hN : Maps.size D0 ≤ 1000000) (w : World) (hseq : SeqStopsK Fence.wide 3 Tryz.prog 113 #[.pointer (some ⟨Bm, 0, none⟩)] (fun x : Int × ByteArray => #[Value.agg #[.int .i64 x.1, .string x.2]]) KeepsWalks (AllSp D0) (fun _ => True) (Maps.size D0) w) :
    CallsIn Fence.wide 4 Tryz.prog 154 #[.slice none 0 0, .func (.func 113) #[] #[.pointer (some ⟨Bm, 0, none⟩)]] w fun e w' => ∃ (v : Value) (ss : List (Int × ByteArray)), e = .returned v ∧ AllSp D0 ss ∧ w'.ownsRow w.heap.size 135 2 v ss.length (ss.flatMap encSp) ∧ Below w.heap.size w w' := by
  obtain ⟨i0, hi, hz0, hz1, hz2⟩ := info_parts infoSp
  refine callsIn_of_wp_marks Tryz.func154 rfl trivial ?_ rfl
  simp only [Tryz.ntmps154, List.size_toArray, List.length_cons, List.length_nil, Nat.reduceAdd, Nat.reduceSub, Array.replicate_succ, Array.replicate_zero, List.push_toArray, List.append_toArray, List.nil_append, List.cons_append]
  gi_wp2
  obtain ⟨W0, hW0⟩ : ∃ W0, W0 = w.alloc (.cells #[.slice none 0 0] 132) := ⟨_, rfl⟩
  have hs0 : W0.heap.size = w.heap.size + 1 := by rw [hW0]; simp
  have hv0 : Boxed W0 w.heap.size 132 (.slice none 0 0) := by rw [hW0]; exact Boxed.new w _ _
  have hb0 : Below w.heap.size w W0 := by rw [hW0]; exact (Below.refl _ w).alloc (Nat.le_refl _) _
  rw [← hW0]
  clear hW0
  refine wpIn_rangeFunc_ownH rfl (by omega) (gf := 113) (lb := #[.pointer (some ⟨Bm, 0, none⟩)]) rfl trivial (enters_of Tryz.func113 (by kernel_rfl) rfl)
    hseq (fun h k => h.trans k) (fun W l o o' _ ho _ hw => KeepsWalks.putObj _ ho hw) hb0 (fun _ => rfl)
    (fun (pre : List (Int × ByteArray)) W => (∃ v, Boxed W w.heap.size 132 v ∧ W.ownsRow w.heap.size 135 2 v pre.length (pre.flatMap encSp) ∧ True) ∧ Below w.heap.size w W)
    (fun c (pre : List (Int × ByteArray)) W => False)
    (OwnFrom.and (Own.from (holdsRow_own w.heap.size w.heap.size 132 135 2 (fun pre : List (Int × ByteArray) => pre.length) (fun pre => pre.flatMap encSp) (fun _ _ => True)) _) (ownFrom_below (Nat.le_refl _) (by omega)))
    (fun c => fun _ _ _ _ h _ _ => h)
    ⟨⟨_, hv0, World.ownsRow_nil _ _ _ _, trivial⟩, hb0⟩
    (fun x a' W => ∃ k, Holds W k #[.int .i64 x.1, .string x.2] 135 ∧ w.heap.size ≤ k ∧ a' = { tmps := #[.slice none 0 0, .func (.func 113) #[] #[.pointer (some ⟨Bm, 0, none⟩)], .pointer (some ⟨w.heap.size, 0, none⟩), undef, .slice none 0 0, .pointer (some ⟨k, 0, none⟩), .func (.func 113) #[] #[.pointer (some ⟨Bm, 0, none⟩)], .agg #[.int .i64 x.1, .string x.2], undef, undef, undef, undef, undef], defers := [] })
    (fun x a' => ?own) ?assign ?body ?done ?stop
  case own =>
    rintro _ X Y row ⟨k, h1, h2, h3⟩ hg hrow
    exact ⟨k, holds_own k 135 _ () X Y row h1 hg (fun r e => by obtain ⟨_, o, q1, q2⟩ := hrow r e; exact ⟨o, q1, q2⟩), h2, h3⟩
  case assign =>
    intro l pre x W K hI hK
    gi_wp2_with (rw [Oper.semAt_eq _ _ _ (fun c h => by cases h)]; go_simp; try go_bits)
    have hp := World.alloc_heap_new W (Obj.cells #[.int .i64 x.1, .string x.2] 135)
    have kk : KeepsOthers W (W.alloc (Obj.cells #[.int .i64 x.1, .string x.2] 135)) := KeepsOthers.alloc _ _
    refine hK _ _ (kk.from _) kk.walks ?_ ⟨W.heap.size, hp, hI.2.size, rfl⟩
    obtain ⟨⟨v, hv, hrow, _⟩, hB⟩ := hI
    exact ⟨⟨v, hv.alloc _, hrow.alloc _, trivial⟩, hB.alloc hB.size _⟩
  case body =>
    rintro l pre x a' W hl hr ⟨⟨v, hv, hrow, _⟩, hB⟩ ⟨k, hk, hk2, rfl⟩ hlt
    have hsz := hB.size
    have k0 := hk.cell 0
    have k1 := hk.cell 1
    have v0 := hv.cell
    gi_wp2_with (first
      | (gi_at_builtin; refine wpListIn_append_own _ rfl _ _ 132 rfl w.heap.size 135 i0 _ 2 24 Tryz.underlying132 hi hz0 hz1 hz2 rfl (by decide) _ _ _ rfl (hrow.alloc _) ⟨W.heap.size, 0, none⟩ 1 1 (encSp x) rfl rfl (World.news_of_block (Holds.new W #[.int .i64 x.1, .string x.2] 135)) (by simp [encSp, Value.oneCell']) (by unfold maxLen; omega) (by omega) (by simp; omega) ?_; intro v' w1 hown' hgrow _; obtain ⟨g', cap', rfl⟩ := ownsRow_succ hown'; obtain ⟨hv1, hv2, hr2, hk2, hb2⟩ := hv.appended (by decide) hrow hsz (Nat.le_refl _) hown' hgrow; have hc1 := hv1.cell; have hf1 := hv1.frozen)
      | (rw [Oper.semAt_eq _ _ _ (fun c h => by cases h)]; go_simp; try go_bits))
    refine ⟨hk2.from _, hk2.walks, ⟨⟨_, hv2, ?_, trivial⟩, hB.trans hb2⟩⟩
    rw [List.length_append, List.flatMap_append]
    simpa using hr2
  case done =>
    rintro D ys W hD hall ⟨⟨v, hv, hrow, _⟩, hB⟩ hK
    have v0 := hv.cell
    gi_wp2
    refine ⟨by simp, .inl ⟨_, _, rfl, run_takeDeferred hK, ?_⟩⟩
    exact ⟨_, results_tmp rfl _ _ _, v, ys, rfl, hall, ownsRow_putObj hrow _ hK rfl, hB.grown (grownBy_putObj' W D (.deferred none)) hB.size (fun k e => by cases e; omega)⟩
  case stop =>
    rintro D c pre W hD _ h _
    exact h.elim
set_option maxRecDepth 100000 in
set_option maxHeartbeats 1000000 in
theorem collect_sp (Bm : Nat) (D0 : DataW Unit) (hN : Maps.size D0 ≤ 1000000) (w : World) (hseq : SeqStopsK Fence.wide 3 Tryz.prog 113 #[.pointer (some ⟨Bm, 0, none⟩)] (fun x : Int × ByteArray => #[Value.agg #[.int .i64 x.1, .string x.2]]) KeepsWalks (AllSp D0) (fun _ => True) (Maps.size D0) w) :
    Calls Tryz.prog 111 #[.func (.func 113) #[] #[.pointer (some ⟨Bm, 0, none⟩)]] w fun e w' => ∃ (v : Value) (ss : List (Int × ByteArray)), e = .returned v ∧ AllSp D0 ss ∧ w'.ownsRow w.heap.size 135 2 v ss.length (ss.flatMap encSp) ∧ Below w.heap.size w w' := by
  have HA := Lib.hid ((callsIn_wide (n := 4)).1 (append_sp Bm D0 hN w hseq))
  clear hseq hN
  go_enter Tryz.func111, Tryz.ntmps111
  go_wp2_with fail
  with_reducible refine HA.out.mono ?_
  rintro e w1 ⟨v, ss, rfl, h1, h2, h3⟩
  have HF := Lib.hid (And.intro h1 (And.intro h2 h3))
  clear h1 h2 h3 HA
  go_wp2_with fail
  go_ret
  exact ⟨_, ss, rfl, HF.out⟩
set_option maxRecDepth 100000 in
theorem keys_sp (mb : Option Nat) (W : World) : Calls Tryz.prog 51 #[.map mb] W fun e w' => e = .returned (.func (.func 113) #[] #[.pointer (some ⟨W.heap.size, 0, none⟩)]) ∧ w' = W.alloc (.cells #[.map mb] 128) := by
  go_enter Tryz.func51, Tryz.ntmps51
  go_wp2_with fail
  go_ret
  exact ⟨rfl, rfl⟩
end Go.Proofs.YtgleopahldpajaaGreat

/-
  Layer 19 (tree): slices.SortedFunc of changed names, slices.Sorted of changed numbers.
-/
namespace Go.Proofs.YtgleopahldpajaaGreat
open Go.RowKit Go.Shelf Go.Sort
open Go.Maps (Keyed has)
set_option linter.unusedVariables false
def TrQ.keysA_ren : Go.Shelf.Ren := ⟨fun | 7 => 55 | 10 => 119 | n => n, fun | 23 => 127 | 26 => 3 | 3 => 139 | 28 => 145 | 0 => 0 | 27 => 144 | 33 => 205 | 4 => 4 | n => n, fun | n => n⟩
theorem TrQ.keysA : Go.Proofs.SlLaysZI.n7 Tryz.prog TrQ.keysA_ren where
  mixed := by kernel_rfl
  f7 := ⟨ "maps.Keys[map[int]struct{},int,struct{}]", by decide, Tryz.func55.trans (congrArg some (by kernel_rfl))⟩
  f10 := ⟨ "maps.Keys[map[int]struct{},int,struct{}]$1", by decide, Tryz.func119.trans (congrArg some (by kernel_rfl))⟩
  t0 := Tryz.underlying0
  a0 := Tryz.isAgg0
  z0 := Tryz.sizeOf0
  v0 := Tryz.zeroValue0
  t4 := Tryz.underlying4
  a4 := Tryz.isAgg4
  z4 := Tryz.sizeOf4
  v4 := Tryz.zeroValue4
  t23 := Tryz.underlying127
  a23 := Tryz.isAgg127
  z23 := Tryz.sizeOf127
  v23 := Tryz.zeroValue127
  t26 := Tryz.underlying3
  a26 := Tryz.isAgg3
  z26 := Tryz.sizeOf3
  v26 := Tryz.zeroValue3
  t27 := Tryz.underlying144
  a27 := Tryz.isAgg144
  z27 := Tryz.sizeOf144
  v27 := Tryz.zeroValue144
  t28 := Tryz.underlying145
  a28 := Tryz.isAgg145
  z28 := Tryz.sizeOf145
  v28 := Tryz.zeroValue145
  t33 := Tryz.underlying205
  a33 := Tryz.isAgg205
  z33 := Tryz.sizeOf205
  v33 := Tryz.zeroValue205
def TrQ.sortedA_ren : Go.Shelf.Ren := ⟨fun | 6 => 54 | 8 => 118 | 9 => 92 | 11 => 159 | 13 => 146 | 12 => 145 | 23 => 176 | 24 => 177 | 14 => 167 | 15 => 168 | 16 => 169 | 17 => 170 | 18 => 171 | 19 => 172 | 20 => 173 | 21 => 174 | 22 => 175 | 25 => 202 | 26 => 203 | 27 => 204 | 28 => 205 | 29 => 206 | 30 => 156 | 31 => 221 | n => n, fun | 26 => 3 | 28 => 145 | 24 => 58 | 0 => 0 | 3 => 3 | 37 => 240 | 48 => 260 | 50 => 262 | 4 => 4 | 40 => 254 | 39 => 253 | 45 => 141 | 5 => 5 | 9 => 9 | 51 => 283 | 55 => 287 | 57 => 298 | 58 => 61 | 33 => 205 | n => n, fun | n => n⟩
theorem TrQ.sortedA : Go.Proofs.SlLaysZI.n6 Tryz.prog TrQ.sortedA_ren where
  mixed := by kernel_rfl
  f6 := ⟨ "slices.Sorted[int]", by decide, Tryz.func54.trans (congrArg some (by kernel_rfl))⟩
  f8 := ⟨ "slices.Collect[int]", by decide, Tryz.func118.trans (congrArg some (by kernel_rfl))⟩
  f11 := ⟨ "slices.AppendSeq[[]int,int]", by decide, Tryz.func159.trans (congrArg some (by kernel_rfl))⟩
  t0 := Tryz.underlying0
  a0 := Tryz.isAgg0
  z0 := Tryz.sizeOf0
  v0 := Tryz.zeroValue0
  t24 := Tryz.underlying58
  a24 := Tryz.isAgg58
  z24 := Tryz.sizeOf58
  v24 := Tryz.zeroValue58
  t26 := Tryz.underlying3
  a26 := Tryz.isAgg3
  z26 := Tryz.sizeOf3
  v26 := Tryz.zeroValue3
  t28 := Tryz.underlying145
  a28 := Tryz.isAgg145
  z28 := Tryz.sizeOf145
  v28 := Tryz.zeroValue145
  i26 := by kernel_rfl
def TrQ.sortA_ren : Go.Shelf.Ren := ⟨fun | 5 => 92 | 8 => 146 | 7 => 145 | 19 => 176 | 20 => 177 | 10 => 167 | 11 => 168 | 12 => 169 | 13 => 170 | 14 => 171 | 15 => 172 | 16 => 173 | 17 => 174 | 18 => 175 | 30 => 202 | 31 => 203 | 32 => 204 | 33 => 205 | 34 => 206 | 35 => 156 | 40 => 221 | n => n, fun | 23 => 58 | 25 => 3 | 3 => 3 | 32 => 240 | 22 => 58 | 0 => 0 | 44 => 260 | 46 => 262 | 4 => 4 | 36 => 254 | 35 => 253 | 41 => 141 | 5 => 5 | 9 => 9 | 53 => 283 | 57 => 287 | 63 => 298 | 64 => 61 | n => n, fun | n => n⟩
theorem TrQ.sortA : Go.Proofs.SlLaysM.n5 Tryz.prog TrQ.sortA_ren where
  mixed := by kernel_rfl
  f5 := ⟨ "slices.Sort[[]int,int]", by decide, Tryz.func92.trans (congrArg some (by kernel_rfl))⟩
  f7 := ⟨ "slices.pdqsortOrdered[int]", by decide, Tryz.func145.trans (congrArg some (by kernel_rfl))⟩
  f8 := Tryz.func146.trans (congrArg some (by kernel_rfl))
  f10 := ⟨ "slices.insertionSortOrdered[int]", by decide, Tryz.func167.trans (congrArg some (by kernel_rfl))⟩
  f11 := ⟨ "slices.heapSortOrdered[int]", by decide, Tryz.func168.trans (congrArg some (by kernel_rfl))⟩
  f12 := ⟨ "slices.breakPatternsOrdered[int]", by decide, Tryz.func169.trans (congrArg some (by kernel_rfl))⟩
  f13 := ⟨ "slices.choosePivotOrdered[int]", by decide, Tryz.func170.trans (congrArg some (by kernel_rfl))⟩
  f14 := ⟨ "slices.reverseRangeOrdered[int]", by decide, Tryz.func171.trans (congrArg some (by kernel_rfl))⟩
  f15 := ⟨ "slices.partialInsertionSortOrdered[int]", by decide, Tryz.func172.trans (congrArg some (by kernel_rfl))⟩
  f16 := ⟨ "cmp.Less[int]", by decide, Tryz.func173.trans (congrArg some (by kernel_rfl))⟩
  f17 := ⟨ "slices.partitionEqualOrdered[int]", by decide, Tryz.func174.trans (congrArg some (by kernel_rfl))⟩
  f18 := ⟨ "slices.partitionOrdered[int]", by decide, Tryz.func175.trans (congrArg some (by kernel_rfl))⟩
  f19 := Tryz.func176.trans (congrArg some (by kernel_rfl))
  f20 := Tryz.func177.trans (congrArg some (by kernel_rfl))
  f30 := ⟨ "slices.siftDownOrdered[int]", by decide, Tryz.func202.trans (congrArg some (by kernel_rfl))⟩
  f31 := Tryz.func203.trans (congrArg some (by kernel_rfl))
  f32 := Tryz.func204.trans (congrArg some (by kernel_rfl))
  f33 := ⟨ "slices.medianAdjacentOrdered[int]", by decide, Tryz.func205.trans (congrArg some (by kernel_rfl))⟩
  f34 := ⟨ "slices.medianOrdered[int]", by decide, Tryz.func206.trans (congrArg some (by kernel_rfl))⟩
  f35 := ⟨ "cmp.isNaN[int]", by decide, Tryz.func156.trans (congrArg some (by kernel_rfl))⟩
  f40 := ⟨ "slices.order2Ordered[int]", by decide, Tryz.func221.trans (congrArg some (by kernel_rfl))⟩
  t0 := Tryz.underlying0
  a0 := Tryz.isAgg0
  z0 := Tryz.sizeOf0
  v0 := Tryz.zeroValue0
  t3 := Tryz.underlying3
  a3 := Tryz.isAgg3
  z3 := Tryz.sizeOf3
  v3 := Tryz.zeroValue3
  t4 := Tryz.underlying4
  a4 := Tryz.isAgg4
  z4 := Tryz.sizeOf4
  v4 := Tryz.zeroValue4
  t5 := Tryz.underlying5
  a5 := Tryz.isAgg5
  z5 := Tryz.sizeOf5
  v5 := Tryz.zeroValue5
  t9 := Tryz.underlying9
  a9 := Tryz.isAgg9
  z9 := Tryz.sizeOf9
  v9 := Tryz.zeroValue9
  t22 := Tryz.underlying58
  a22 := Tryz.isAgg58
  z22 := Tryz.sizeOf58
  v22 := Tryz.zeroValue58
  t23 := Tryz.underlying58
  a23 := Tryz.isAgg58
  z23 := Tryz.sizeOf58
  v23 := Tryz.zeroValue58
  t25 := Tryz.underlying3
  a25 := Tryz.isAgg3
  z25 := Tryz.sizeOf3
  v25 := Tryz.zeroValue3
  t32 := Tryz.underlying240
  a32 := Tryz.isAgg240
  z32 := Tryz.sizeOf240
  v32 := Tryz.zeroValue240
  t35 := Tryz.underlying253
  a35 := Tryz.isAgg253
  z35 := Tryz.sizeOf253
  v35 := Tryz.zeroValue253
  t36 := Tryz.underlying254
  a36 := Tryz.isAgg254
  z36 := Tryz.sizeOf254
  v36 := Tryz.zeroValue254
  t41 := Tryz.underlying141
  a41 := Tryz.isAgg141
  z41 := Tryz.sizeOf141
  v41 := Tryz.zeroValue141
  t44 := Tryz.underlying260
  a44 := Tryz.isAgg260
  z44 := Tryz.sizeOf260
  v44 := Tryz.zeroValue260
  t46 := Tryz.underlying262
  a46 := Tryz.isAgg262
  z46 := Tryz.sizeOf262
  v46 := Tryz.zeroValue262
  t53 := Tryz.underlying283
  a53 := Tryz.isAgg283
  z53 := Tryz.sizeOf283
  v53 := Tryz.zeroValue283
  t57 := Tryz.underlying287
  a57 := Tryz.isAgg287
  z57 := Tryz.sizeOf287
  v57 := Tryz.zeroValue287
  t63 := Tryz.underlying298
  a63 := Tryz.isAgg298
  z63 := Tryz.sizeOf298
  v63 := Tryz.zeroValue298
  t64 := Tryz.underlying61
  a64 := Tryz.isAgg61
  z64 := Tryz.sizeOf61
  v64 := Tryz.zeroValue61
theorem trSorts (m : Nat) : AnyZI.SortsIn Tryz.prog TrQ.sortedA_ren Fence.wide m :=
  ⟨fun blk off cap ss W hH hblk hsz => callsIn_wide.2 (AnyM.slices_Sort_int TrQ.sortA blk off cap ss W hH hblk hsz), fun p cap W => callsIn_wide.2 (AnyM.slices_Sort_int_none TrQ.sortA p cap W)⟩
theorem tkeys_call (mb : Option Nat) (W : World) : Calls Tryz.prog 55 #[.map mb] W fun e w' => e = .returned (.func (.func 119) #[] #[.pointer (some ⟨W.heap.size, 0, none⟩)]) ∧ w' = W.alloc (.cells #[.map mb] 127) :=
  (callsIn_wide (n := 5)).1 (AnyZI.keys_in TrQ.keysA Fence.wide 5 trivial rfl mb W)
set_option maxHeartbeats 1000000 in
theorem tsorted_call {H : Type} (b nn : Nat) (D0 : DataW H) (R : Value → Option (DataW H × List MemPlace)) (w : World) (hown : w.ownsMap Tryz.prog 3 R b nn D0) (hmax : Maps.size D0 ≤ maxLen) (hbytes : Maps.size D0 * 8 ≤ 140737488355328) :
    Calls Tryz.prog 54 #[.func (.func 119) #[] #[.pointer (some ⟨w.heap.size, 0, none⟩)]] (w.alloc (.cells #[.map (some b)] 127)) fun e w' => ∃ (v : Value) (ss : List Int), e = .returned v ∧ ss.Perm (intKeys D0) ∧
      w'.ownsRow (w.alloc (.cells #[.map (some b)] 127)).heap.size 3 1 v ss.length ((ss.mergeSort (fun x y => decide (x ≤ y))).map encZ) ∧ (v = .slice none 0 0 ↔ ss = []) ∧ Below (w.alloc (.cells #[.map (some b)] 127)).heap.size (w.alloc (.cells #[.map (some b)] 127)) w' := by
  refine (callsIn_wide (n := 5)).1 ?_
  have hbl := hown.lt
  have hseq : SeqGives Fence.wide 2 Tryz.prog 119 #[.pointer (some ⟨w.heap.size, 0, none⟩)] encZ (fun ss => ss.Perm (intKeys D0)) (Maps.size D0) (w.alloc (.cells #[.map (some b)] 127)) :=
    AnyZI.keys_gives (ρ := TrQ.keysA_ren) { TrQ.keysA with } Fence.wide _ trivial rfl (by omega) w.heap.size b nn D0 _ (by simp) (by simp) (by
      obtain ⟨es, clock, hb, Ft, hs, hD⟩ := hown
      exact ⟨es, clock, (Below.heap_alloc _ _ b hbl).trans hb, Ft, hs, hD⟩)
  exact AnyZI.sorted_in TrQ.sortedA Fence.wide 5 trivial trivial trivial trivial rfl (by omega) (trSorts _) (enters_of Tryz.func92 (by kernel_rfl) rfl) 119 #[.pointer (some ⟨w.heap.size, 0, none⟩)] trivial (enters_of Tryz.func119 (by kernel_rfl) rfl) _ _ hmax hbytes _ hseq


theorem flatSp_get : ∀ (L : List (Int × ByteArray)) (t : Nat), t < L.length * 2 → (L.flatMap encSp)[t]? = some ((encSp (L[t / 2]!))[t % 2]!)
  | [], t, h => by simp at h
  | x :: L, 0, h => rfl
  | x :: L, 1, h => rfl
  | x :: L, t + 2, h => by
    have ih := flatSp_get L t (by simp only [List.length_cons] at h; omega)
    rw [show (t + 2) / 2 = t / 2 + 1 by omega, show (t + 2) % 2 = t % 2 by omega]
    rw [List.flatMap_cons]
    show (Value.int .i64 x.1 :: Value.string x.2 :: L.flatMap encSp)[t + 2]? = _
    simp only [List.getElem?_cons_succ]
    rw [ih]
    rfl
theorem holdsSp {w : World} {base g n cap : Nat} {L : List (Int × ByteArray)} (h : w.ownsRow base 135 2 (.slice (some ⟨g, 0, none⟩) n cap) n (L.flatMap encSp)) (hn : n = L.length) : Go.Sort.HoldsK encSp 2 w g 0 L.toArray := by
  intro j hj
  rw [Go.Sort.size_flatK] at hj
  have hj' : j < L.length * 2 := by simpa using hj
  refine ⟨?_, World.ownsRow.frozenAt h _⟩
  rw [Nat.zero_add, World.ownsRow.cellAt h j (by omega), flatSp_get L j hj', Go.Sort.get_flatK _ _ _ _ hj]
  simp

/-- Places in a row. -/
def SpAt (w : World) (g : Nat) (L : List (Int × ByteArray)) : Prop := ∀ i (h : i < L.length), w.cell? ⟨g, i * 2, none⟩ = some (.int .i64 L[i].1) ∧ w.cell? ⟨g, i * 2 + 1, none⟩ = some (.string L[i].2)
theorem spAt_of {w : World} {g : Nat} {d : Array (Int × ByteArray)} (h : Go.Sort.HoldsK encSp 2 w g 0 d) : SpAt w g d.toList := fun i hi => by
  have hi' : i < d.size := by simpa using hi
  have h0 := (Go.Sort.HoldsK.cell h (c := 0) hi' (by omega)).1
  have h1 := (Go.Sort.HoldsK.cell h (c := 1) hi' (by omega)).1
  rw [getElem!_pos d i hi', show 0 + i * 2 + 0 = i * 2 by omega] at h0
  rw [getElem!_pos d i hi', show 0 + i * 2 + 1 = i * 2 + 1 by omega] at h1
  exact ⟨by simpa [encSp] using h0, by simpa [encSp] using h1⟩
theorem AllSp.perm {D : DataW Unit} {ss L : List (Int × ByteArray)} (h : AllSp D ss) (p : ss.Perm L) : AllSp D L :=
  ⟨p.nodup_iff.1 h.nd, fun x hx => h.wf x (p.mem_iff.2 hx), fun x h1 h2 => p.mem_iff.symm.trans (h.mem x h1 h2), by rw [← p.length_eq]; exact h.len⟩
theorem spLt_total {x y : Int × ByteArray} (hne : x ≠ y) (h : ¬ spLt y x) : spLt x y := by
  unfold spLt at *
  by_cases a : x.1 < y.1
  · exact .inl a
  · have b : ¬ y.1 < x.1 := fun q => h (.inl q)
    have e : x.1 = y.1 := by omega
    refine .inr ⟨e, ?_⟩
    by_cases c : x.2.data.toList < y.2.data.toList
    · exact c
    · have d : ¬ y.2.data.toList < x.2.data.toList := fun q => h (.inr ⟨e.symm, q⟩)
      exact absurd (Prod.ext e (ByteArray.ext (Array.ext' (List.le_antisymm (List.not_lt.1 d) (List.not_lt.1 c))))) hne
theorem sorted_sp {L : List (Int × ByteArray)} (hn : L.Nodup) (h : L.Pairwise fun x y => ¬ spLt y x) : L.Pairwise spLt := by
  have := List.Pairwise.and hn h
  exact this.imp fun ⟨a, b⟩ => spLt_total a b
set_option maxRecDepth 100000 in
set_option maxHeartbeats 2000000 in
theorem sortedFunc_sp (Bm b nn : Nat) (D0 : DataW Unit) (hN : Maps.size D0 ≤ 1000000) (w : World) (hBm : Bm < w.heap.size) (hc : w.cell? ⟨Bm, 0, none⟩ = some (.map (some b))) (hown : w.ownsMap Tryz.prog 135 setE.R b nn D0) :
    Calls Tryz.prog 50 #[.func (.func 113) #[] #[.pointer (some ⟨Bm, 0, none⟩)], .func (.func 52) #[] #[]] w fun e w' => ∃ (ao : Option Addr) (cap : Nat) (L : List (Int × ByteArray)), e = .returned (.slice ao L.length cap) ∧ AllSp D0 L ∧ L.Pairwise spLt ∧ (L ≠ [] → ∃ g, ao = some ⟨g, 0, none⟩ ∧ w.heap.size ≤ g ∧ g < w'.heap.size ∧ SpAt w' g L) ∧ Gr [] w w' := by
  have HC := Lib.hid (collect_sp Bm D0 hN w (spotKeys_stops 3 (by omega) Bm b nn D0 w hBm hc hown))
  have HN := Lib.hid hN
  clear hN hBm hc hown
  go_enter Tryz.func50, Tryz.ntmps50
  go_wp2_with fail
  with_reducible refine HC.out.mono ?_
  rintro e w1 ⟨v, ss, rfl, h1, h2, h3⟩
  have hl := h1.nd
  by_cases c : ss = []
  · obtain ⟨ao, cap, rfl⟩ := own_shp h2
    have HS := Lib.hid (AnyF.slices_SortFunc_none TrQ.srt ao cap (.func (.func 52) #[] #[]) w1)
    rw [TrQ.fSrt] at HS
    have HF := Lib.hid (And.intro h1 (Gr.ofBelow (cs := []) h3))
    have HE := Lib.hid c
    have hz : ss.length = 0 := by rw [c]; rfl
    rw [hz]
    clear h1 h2 h3 c hl hz HC
    go_wp2_with fail
    with_reducible refine HS.out.mono ?_
    rintro e w2 ⟨rfl, rfl⟩
    go_wp2_with fail
    go_ret
    exact ⟨ao, cap, [], rfl, by rw [← HE.out]; exact HF.out.1, List.Pairwise.nil, fun q => absurd rfl q, HF.out.2⟩
  · obtain ⟨gb, cap, cur, rfl, hb, hgh⟩ : ∃ gb cap cur, v = .slice (some ⟨gb, 0, none⟩) ss.length cap ∧ w.heap.size ≤ gb ∧ w1.heap[gb]? = some (.cells cur 135 (0, 0)) := by
      rcases h2.2 with ⟨h0, e0⟩ | ⟨gb, cap, cur, hv, hb, hg, _⟩
      · exact absurd (List.length_eq_zero_iff.1 e0) c
      · exact ⟨gb, cap, cur, hv, hb, hg⟩
    have hgl : gb < w1.heap.size := (Array.getElem?_eq_some_iff.1 hgh).1
    have hH := holdsSp h2 rfl
    have hso := sortSp gb cap ss.toArray w1 hH hgl (by rw [List.size_toArray]; have := h1.len; have := HN.out; omega)
    rw [List.size_toArray] at hso
    have HSo := Lib.hid hso
    have HF := Lib.hid (And.intro h1 (And.intro h3 (And.intro hb hgl)))
    clear h1 h2 h3 c hl HC hb hgh hgl hH hso
    go_wp2_with fail
    with_reducible refine HSo.out.mono ?_
    rintro e w2 ⟨rfl, d', q1, q2, q3, q4, q5⟩
    have hlen : d'.toList.length = ss.length := by rw [Array.length_toList, q1]
    have HD := Lib.hid (HF.out.1.perm (L := d'.toList) (by simpa using q2.symm))
    have HQ := Lib.hid (And.intro q3 (And.intro (spAt_of q4) (And.intro q5 hlen)))
    clear q1 q2 q3 q4 q5 hlen HSo
    go_wp2_with fail
    go_ret
    have hs2 := HQ.out.2.2.1.size
    refine ⟨_, cap, d'.toList, by rw [HQ.out.2.2.2]; rfl, HD.out, sorted_sp HD.out.nd HQ.out.1, fun _ => ⟨gb, rfl, HF.out.2.2.1, by have := HF.out.2.2.2; omega, HQ.out.2.1⟩, (Gr.ofBelow (cs := []) HF.out.2.1).nextN HQ.out.2.2.1 fun x hx => .inr (by rw [List.mem_singleton] at hx; have := HF.out.2.2.1; omega)⟩
end Go.Proofs.YtgleopahldpajaaGreat
