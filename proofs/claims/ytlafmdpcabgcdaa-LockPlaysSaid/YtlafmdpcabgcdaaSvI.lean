/-
  slices.Sorted(slices.Values(xs)) over a list of ints that came in: a new row that holds them, sorted.
-/
import Derived.Test.YtlafmdpcabgcdaaLkT
import Derived.RangeFuncBox
import Derived.RangeFuncLeaves
import Derived.RangeFuncNested
import Derived.RangeFuncBound
import Derived.RangeFuncCalls
import Derived.OwnWalkIn
import Derived.TacticsInMore
import Derived.LoopNIn
import Derived.LoopIn
namespace Go.Proofs.Ytlafmdpcabgcdaa
open Go.RowKit Go.Shelf

attribute [local go_sem] Oper.semAt_some

theorem zv_snocV (l : List Int) (x : Int) : zv (l ++ [x]) = zv l ++ [.int .i64 x] := by simp [zv]
theorem hkept {W W' : World} {row : Option Nat} {B : Nat} {t : TypeId} {cs : Array Value} (h : Holds W B cs t) (hg : W.grownBy W' row) (hne : some B ≠ row) : Holds W' B cs t := (hg.block B h.lt hne).trans h
theorem hnot_row {W : World} {B : Nat} {t e : TypeId} {cs : Array Value} (h : Holds W B cs t) (hte : t ≠ e) {base size k : Nat} {v : Value} {xs : List Value} (hr : W.ownsRow base e size v k xs) : some B ≠ v.ownBlock := by
  rcases hr.2 with ⟨rfl, _⟩ | ⟨g, cap, cur, rfl, _, hgb, _⟩
  · simp [Value.ownBlock]
  · intro e'
    obtain rfl : B = g := by simpa [Value.ownBlock] using e'
    have := (show W.heap[B]? = _ from h).symm.trans hgb
    simp at this
    exact hte this.2
theorem upto_take (zs : List Int) {k : Nat} (hk : k ≤ zs.length) : (List.range k).map (fun j => zs[j]?.getD 0) = zs.take k := by
  apply List.ext_getElem
  · simp [hk]
  · intro i h1 h2
    have : i < zs.length := by simp at h1; omega
    simp [this]
/-- What slices.Values hands back reads the slice as long as what lay below n₀ is kept. -/
def IntsAt (n₀ : Nat) (W : World) (sv : Value) (zs : List Int) : Prop := ∃ ao cap, sv = .slice ao zs.length cap ∧ RdI W ao zs ∧ zs.length ≤ cap ∧ (∀ (k o i : Nat) (x : Int), zs[i]? = some x → ao = some ⟨k, o, none⟩ → k < n₀) ∧ (ao = none → cap = 0)
theorem IntsAt.below {n₀ : Nat} {A B : World} {sv : Value} {zs : List Int} (hI : IntsAt n₀ A sv zs) (h : Below n₀ A B) : IntsAt n₀ B sv zs := by
  obtain ⟨ao, cap, h1, h2, h3, h4, h5⟩ := hI
  refine ⟨ao, cap, h1, fun i x hi => ?_, h3, h4, h5⟩
  obtain ⟨k, o, q1, q2, q3⟩ := h2 i x hi
  exact ⟨k, o, q1, Nat.lt_of_lt_of_le q2 h.size, (h.cell (p := ⟨k, o + i, none⟩) (h4 k o i x hi q1)).trans q3⟩
set_option maxRecDepth 100000 in
set_option maxHeartbeats 4000000 in
theorem vals1_in (F : Fence) (n : Nat) (h7 : F.fn 32) (hro : F.round = none) (hn : 1 ≤ n) (l Bs n₀ : Nat) (sv : Value) (zs : List Int) (hreach : zs.length ≤ 1000000) (J Jx : List Int → World → Prop)
    (hY : ∀ pre x W, J pre W → pre.length < zs.length → YieldAt F (n - 1) Try.prog l #[.int .i64 x] W fun e W' =>
      (e = .returned (.bool true) ∧ J (pre ++ [x]) W' ∧ Below n₀ W W') ∨ (e = .returned (.bool false) ∧ Jx (pre ++ [x]) W'))
    (W : World) (hBs : W.cell? ⟨Bs, 0, none⟩ = some sv) (hI : IntsAt n₀ W sv zs) (h0 : J [] W) :
    CallsIn F n Try.prog 32 #[.func (.yield l) #[] #[], .pointer (some ⟨Bs, 0, none⟩)] W fun e W' => (∃ v, e = .returned v) ∧
      (J zs W' ∨ (∃ pre, pre <+: zs ∧ Jx pre W')) := by
  obtain ⟨ao, cap, rfl, hrd, hcap, hbel, -⟩ := id hI
  have HI := Lib.hid hI
  have HR := Lib.hid hrd
  have HB := Lib.hid hbel
  obtain ⟨L, hL⟩ : ∃ L, L = zs.length := ⟨_, rfl⟩
  rw [← hL] at hBs hreach hcap
  have HL := Lib.hid hL
  have HY := Lib.hid hY
  clear hrd hbel hI hL hY
  refine callsIn_of_wp Try.func32 rfl h7 ?_ hro
  simp only [Try.ntmps32, List.size_toArray, List.length_cons, List.length_nil, Nat.reduceAdd, Nat.reduceSub, Array.replicate_succ, Array.replicate_zero, List.push_toArray, List.append_toArray, List.nil_append, List.cons_append]
  gi_wp2
  gi_loopw [7] (fun i wr => ∃ k : Nat, k ≤ L ∧ i = .int .i64 k ∧ J (zs.take k) wr ∧ Below n₀ W wr) (fun i _ => L - (intOf i).toNat)
  case atStart => exact ⟨0, Nat.zero_le _, rfl, h0, Below.refl _ _⟩
  case round =>
    obtain ⟨k, hk, rfl, hJs, hnx⟩ := hrel
    by_cases hlt : k < L
    · have ik : (k : Int) < (L : Int) := by omega
      obtain ⟨x, hx⟩ : ∃ x, zs[k]? = some x := ⟨_, List.getElem?_eq_getElem (by have := HL.out; omega)⟩
      obtain ⟨b1, o1, hao, hb1, z1⟩ := HR.out k x hx
      subst hao
      have hcx : wr.cell? ⟨b1, o1 + k, none⟩ = some (.int .i64 x) := (hnx.cell (p := ⟨b1, o1 + k, none⟩) (HB.out b1 o1 k x hx rfl)).trans z1
      have HT := Lib.hid (show zs.take (k + 1) = zs.take k ++ [x] by
        obtain ⟨h1, h2⟩ := List.getElem?_eq_some_iff.1 hx
        rw [List.take_succ_eq_append_getElem h1, h2])
      obtain ⟨fn, tmps, assign, body, hy, hR⟩ := HY.out (zs.take k) x wr hJs (by rw [List.length_take]; have := HL.out; omega)
      have HJ := Lib.hid hJs
      have HN := Lib.hid hnx
      clear hx z1 hJs hnx hb1
      gi_wp2
      refine hR.mono ?_
      rintro e W3 (⟨rfl, hJ3, hk3⟩ | ⟨rfl, hJx3⟩)
      · have HK := Lib.hid (And.intro hJ3 hk3)
        clear hJ3 hk3
        gi_wp2
        go_roundw
        case rel => exact ⟨k + 1, by omega, by go_num, by rw [HT.out]; exact HK.out.1, HN.out.trans HK.out.2⟩
        case measure => simp [intOf]; omega
      · have HK := Lib.hid hJx3
        clear hJx3
        gi_wp2
        refine bodyPost_ret (results_none rfl _ _ _) rfl ?_
        exact ⟨⟨_, rfl⟩, .inr ⟨_, by rw [← HT.out]; exact List.take_prefix _ _, HK.out⟩⟩
    · obtain rfl : k = L := by omega
      have ik : ¬ ((k : Int) < (k : Int)) := by omega
      have HJ := Lib.hid hJs
      clear hJs hnx
      gi_wp2
      go_end0
      exact ⟨⟨_, rfl⟩, .inl (by have := HJ.out; rw [HL.out, List.take_length] at this; exact this)⟩
theorem vals_stops (F : Fence) (n : Nat) (h7 : F.fn 32) (hro : F.round = none) (hn : 1 ≤ n) (Bs n₀ : Nat) (sv : Value) (zs : List Int) (hreach : zs.length ≤ 1000000) (w : World) (hBs : Bs < w.heap.size) (hn₀ : n₀ ≤ w.heap.size)
    (hc : w.cell? ⟨Bs, 0, none⟩ = some sv) (hI : IntsAt n₀ w sv zs) :
    SeqStopsK F n Try.prog 32 #[.pointer (some ⟨Bs, 0, none⟩)] (fun x : Int => #[Value.int .i64 x]) (Below n₀) (fun ys => ys = zs) (fun pre => pre <+: zs) zs.length w := fun l J Jx W hW _ _ hY h0 =>
  (vals1_in F n h7 hro hn l Bs n₀ sv zs hreach J Jx hY W ((hW.cell (p := ⟨Bs, 0, none⟩) hBs).trans hc) (hI.below (hW.mono hn₀)) h0).mono fun _ _ ⟨h1, h2⟩ => ⟨h1, h2.imp (fun h => ⟨_, rfl, h⟩) id⟩
/-- slices.Values. -/
theorem values_in (F : Fence) (n : Nat) (h5 : F.fn 21) (hro : F.round = none) (a : Option Addr) (len cap : Nat) (w : World) :
    CallsIn F n Try.prog 21 #[.slice a len cap] w fun e w' => e = .returned (.func (.func 32) #[] #[.pointer (some ⟨w.heap.size, 0, none⟩)]) ∧ w' = w.alloc (.cells #[.slice a len cap] 32) := by
  refine callsIn_of_wp Try.func21 rfl h5 ?_ hro
  simp only [Try.ntmps21, List.size_toArray, List.length_cons, List.length_nil, Nat.reduceAdd, Nat.reduceSub, Array.replicate_succ, Array.replicate_zero, List.push_toArray, List.append_toArray, List.nil_append, List.cons_append]
  gi_wp2
  go_ret
  exact ⟨rfl, rfl⟩
theorem rowOne_own {β : Type} (n₀ B : Nat) (t e : TypeId) (k : β → Nat) (f : β → List Value) : Own (fun s W => ∃ v, Holds W B #[v] t ∧ W.ownsRow n₀ e 1 v (k s) (f s)) := by
  rintro s X Y row ⟨v, hv, hr⟩ hg hrow
  refine ⟨v, hkept hv hg (fun e' => ?_), hr.kept hg ?_⟩
  · obtain ⟨o, ho, hc⟩ := hrow B e'.symm
    rw [show X.heap[B]? = _ from hv] at ho; cases ho; cases hc
  · rcases hr.2 with ⟨rfl, _⟩ | ⟨g, cap, cur, rfl, _, hgb, _⟩
    · exact .inl rfl
    · refine .inr fun e' => ?_
      obtain ⟨o, ho, hc⟩ := hrow g (by simpa [Value.ownBlock] using e'.symm)
      rw [hgb] at ho; cases ho; cases hc
theorem setOff_grown (W : World) (b i : Nat) (v : Value) : W.grownBy (W.setCell ⟨b, i, none⟩ v) (some b) :=
  ⟨rfl, rfl, rfl, (KeepsWalks.setCell W _ v).size, fun k _ hk => Below.heap_setCell _ _ _ k (fun e => hk (by rw [e]))⟩
/-- 's = append(s, x)', s in a block of its own. -/
theorem one_appended {W w1 : World} {n₀ B : Nat} {t e : TypeId} {v v' : Value} {k m : Nat} {xs ys : List Value} {tmp : Obj}
    (hv : Holds W B #[v] t) (hte : t ≠ e) (hrow : W.ownsRow n₀ e 1 v k xs) (hn₀ : n₀ ≤ W.heap.size) (hB : n₀ ≤ B)
    (hown' : w1.ownsRow n₀ e 1 v' m ys) (hgrow : (W.alloc tmp).grownBy w1 v.ownBlock) :
    Holds w1 B #[v] t ∧ Holds (w1.setCell ⟨B, 0, none⟩ v') B #[v'] t ∧ (w1.setCell ⟨B, 0, none⟩ v').ownsRow n₀ e 1 v' m ys ∧ KeepsOthers W (w1.setCell ⟨B, 0, none⟩ v') ∧ Below n₀ W (w1.setCell ⟨B, 0, none⟩ v') ∧ W.heap.size ≤ w1.heap.size := by
  have hv1 : Holds w1 B #[v] t := hkept (hv.alloc tmp) hgrow (hnot_row hv hte hrow)
  have hsz : W.heap.size ≤ w1.heap.size := Nat.le_trans (by simp) hgrow.size
  refine ⟨hv1, hv1.set 0 v', hown'.kept (setOff_grown w1 B 0 v') (.inr (hnot_row hv1 hte hown').symm), ?_, ?_, hsz⟩
  · refine ((KeepsOthers.alloc W tmp).trans (KeepsOthers.of_grownBy hgrow fun j o ej hj => ?_)).trans (KeepsOthers.setCell _ _ _)
    rcases (hrow.alloc tmp).2 with ⟨rfl, _⟩ | ⟨g, cap, cur, rfl, _, hgb, _⟩
    · simp [Value.ownBlock] at ej
    · obtain rfl : g = j := by simpa [Value.ownBlock] using ej
      rw [hgb] at hj; cases hj; rfl
  · refine (((Below.refl n₀ W).alloc hn₀ tmp).grown hgrow (by simp; omega) fun j ej => ?_).setCell (p := ⟨B, 0, none⟩) hB v'
    rcases hrow.2 with ⟨rfl, _⟩ | ⟨g, cap, cur, rfl, hb, _, _⟩
    · simp [Value.ownBlock] at ej
    · obtain rfl : g = j := by simpa [Value.ownBlock] using ej
      exact hb
/-- slices.AppendSeq(nil, slices.Values(xs)). -/
def AppQ (w : World) (zs : List Int) (e : Ending) (w' : World) : Prop := ∃ v, e = .returned v ∧ w'.ownsRow w.heap.size 3 1 v zs.length (zv zs) ∧ Below w.heap.size w w'
set_option maxRecDepth 100000 in
set_option maxHeartbeats 4000000 in
theorem appseq_in (n : Nat) (hn : 3 ≤ n) (Bs n₀ : Nat) (sv : Value) (zs : List Int) (hreach : zs.length ≤ 1000000) (w : World) (hBs : Bs < w.heap.size) (hn₀ : n₀ ≤ w.heap.size) (hc : w.cell? ⟨Bs, 0, none⟩ = some sv) (hI : IntsAt n₀ w sv zs) :
    CallsIn Fence.wide n Try.prog 35 #[.slice none 0 0, .func (.func 32) #[] #[.pointer (some ⟨Bs, 0, none⟩)]] w (AppQ w zs) := by
  obtain ⟨i0, hi, hz0, hz1, hz2⟩ := info_parts infoInt8
  refine callsIn_of_wp_marks Try.func35 rfl trivial ?_ rfl
  simp only [Try.ntmps35, List.size_toArray, List.length_cons, List.length_nil, Nat.reduceAdd, Nat.reduceSub, Array.replicate_succ, Array.replicate_zero, List.push_toArray, List.append_toArray, List.nil_append, List.cons_append]
  gi_wp2
  have HV := Holds.new w #[.slice none 0 0] 32
  have hB0 : Below w.heap.size w (w.alloc (.cells #[.slice none 0 0] 32)) := (Below.refl _ w).alloc (Nat.le_refl _) _
  refine wpIn_rangeFunc_ownG rfl (by omega) (gf := 32) (lb := #[.pointer (some ⟨Bs, 0, none⟩)]) rfl trivial (enters_of Try.func32 (by kernel_rfl) rfl)
    (vals_stops _ (n - 1) trivial rfl (by omega) Bs w.heap.size sv zs hreach (w.alloc (.cells #[.slice none 0 0] 32)) (by simp; omega) (by simp) ((hB0.cell (p := ⟨Bs, 0, none⟩) hBs).trans hc) (by
      obtain ⟨ao, cap, q1, q2, q3, q4, q5⟩ := hI.below (hB0.mono hn₀)
      exact ⟨ao, cap, q1, q2, q3, fun k o i x hx e => by have := q4 k o i x hx e; omega, q5⟩)) belowK_t (belowK_b (by simp)) (Below.refl _ _) (fun _ => rfl)
    (fun (pre : List Int) W => (∃ v, Holds W w.heap.size #[v] 32 ∧ W.ownsRow w.heap.size 3 1 v pre.length (zv pre)) ∧ Below w.heap.size w W)
    (fun _ _ _ => False)
    (OwnFrom.and (Own.from (rowOne_own _ _ _ _ _ _) _) (ownFrom_below (Nat.le_refl _) (by simp)))
    (fun _ _ _ _ _ hs _ _ => hs)
    ⟨⟨_, HV, World.ownsRow_nil _ _ _ _⟩, hB0⟩
    (fun x => { tmps := #[.slice none 0 0, .func (.func 32) #[] #[.pointer (some ⟨Bs, 0, none⟩)], .pointer (some ⟨w.heap.size, 0, none⟩), undef, .slice none 0 0, .int .i64 x, .func (.func 32) #[] #[.pointer (some ⟨Bs, 0, none⟩)], .int .i64 x, undef, undef, undef, undef, undef], defers := [] }) ?assign ?body ?done ?stop
  case assign =>
    intro l x W K hK
    gi_wp2
    exact hK
  case body =>
    rintro l pre x W ⟨⟨v, hv, hrow⟩, hB⟩ hlt
    have v0 := hv.cell 0
    have vf := hv.frozen 0
    have hsz := hB.size
    have hm9 : maxLen = 9223372036854775807 := rfl
    gi_wp2_with (gi_at_builtin; refine wpListIn_append_own _ rfl _ _ 32 rfl w.heap.size 3 i0 (.int .i64 0) 1 8 Try.underlying32 hi hz0 hz1 hz2 rfl (by decide) _ _ _ rfl (hrow.alloc _) ⟨W.heap.size, 0, none⟩ 1 1 [.int .i64 x] rfl rfl (cell_one_new _ _ _) (by simp [Value.oneCell']) (by omega) (by omega) (by rw [World.size_alloc]; omega) ?_; intro v' w1 hown' hgrow _; have hown2 : w1.ownsRow w.heap.size 3 1 v' (pre.length + 1) (zv (pre ++ [x])) := (by rw [zv_snocV]; exact hown'); obtain ⟨ao2, cap2, rfl, -⟩ := own_rd hown2; obtain ⟨hv1, hv2, hr2, hk2, hb2, hsz2⟩ := one_appended hv (by decide) hrow hsz (Nat.le_refl _) hown2 hgrow; simp only [List.length_append, List.length_cons, List.length_nil, Nat.zero_add] at hv2 hr2 hk2 hb2; have w0c := hv1.cell 0; have w0f := hv1.frozen 0)
    exact ⟨hk2.from _, hb2, ⟨_, hv2, by rw [List.length_append]; exact hr2⟩, hB.trans hb2⟩
  case done =>
    rintro D ys W hD rfl ⟨⟨v, hv, hrow⟩, hB⟩ hK
    have v0 := hv.cell 0
    obtain ⟨ao, cap, rfl, -⟩ := own_rd hrow
    gi_wp2
    refine ⟨by simp, .inl ⟨_, _, rfl, run_takeDeferred hK, ?_⟩⟩
    exact ⟨_, results_tmp rfl _ _ _, _, rfl, hrow.kept (grownBy_putObj_a _ _ _) (ownsRow_ne_a hrow hK (fun cur e => by cases e)), hB.trans (belowK_b (w := w) (Nat.le_refl _) W D _ _ (by simp at hD; omega) hK rfl rfl)⟩
  case stop =>
    rintro D c pre W _ _ h _
    exact h.elim
theorem collect_in (n : Nat) (hn : 4 ≤ n) (Bs n₀ : Nat) (sv : Value) (zs : List Int) (hreach : zs.length ≤ 1000000) (w : World) (hBs : Bs < w.heap.size) (hn₀ : n₀ ≤ w.heap.size) (hc : w.cell? ⟨Bs, 0, none⟩ = some sv) (hI : IntsAt n₀ w sv zs) :
    CallsIn Fence.wide n Try.prog 31 #[.func (.func 32) #[] #[.pointer (some ⟨Bs, 0, none⟩)]] w (AppQ w zs) := by
  have HA := Lib.hid (appseq_in (n - 1) (by omega) Bs n₀ sv zs hreach w hBs hn₀ hc hI)
  clear hI hc
  refine callsIn_of_wp Try.func31 rfl trivial ?_ rfl
  simp only [Try.ntmps31, List.size_toArray, List.length_cons, List.length_nil, Nat.reduceAdd, Nat.reduceSub, Array.replicate_succ, Array.replicate_zero, List.push_toArray, List.append_toArray, List.nil_append, List.cons_append]
  gi_wp2_with (refine ⟨trivial, (fun _ => by omega), ?_⟩; gi_at_call 35; refine HA.out.mono ?_; rintro e w1 ⟨v, rfl, hr, hb⟩; have HR := Lib.hid (And.intro hr hb); clear hr hb)
  go_ret
  exact ⟨_, rfl, HR.out.1, HR.out.2⟩
theorem sortedv_in (n : Nat) (hn : 5 ≤ n) (Bs n₀ : Nat) (sv : Value) (zs : List Int) (hreach : zs.length ≤ 1000000) (w : World) (hBs : Bs < w.heap.size) (hn₀ : n₀ ≤ w.heap.size) (hc : w.cell? ⟨Bs, 0, none⟩ = some sv) (hI : IntsAt n₀ w sv zs) :
    CallsIn Fence.wide n Try.prog 20 #[.func (.func 32) #[] #[.pointer (some ⟨Bs, 0, none⟩)]] w fun e w' => ∃ v, e = .returned v ∧ w'.ownsRow w.heap.size 3 1 v zs.length (zv (srt zs)) ∧ Below w.heap.size w w' := by
  have HA := Lib.hid (collect_in (n - 1) (by omega) Bs n₀ sv zs hreach w hBs hn₀ hc hI)
  clear hI hc
  refine callsIn_of_wp Try.func20 rfl trivial ?_ rfl
  simp only [Try.ntmps20, List.size_toArray, List.length_cons, List.length_nil, Nat.reduceAdd, Nat.reduceSub, Array.replicate_succ, Array.replicate_zero, List.push_toArray, List.append_toArray, List.nil_append, List.cons_append]
  gi_wp2_with (first
    | (refine ⟨trivial, (fun _ => by omega), ?_⟩; gi_at_call 31; refine HA.out.mono ?_; rintro e w1 ⟨v, rfl, hr, hb⟩; have HR := Lib.hid (And.intro hr hb); have HS := Lib.hid ((callsIn_wide (n := n - 1)).2 (sort_row hr (by omega))); clear hr hb)
    | (refine ⟨trivial, (fun _ => by omega), ?_⟩; gi_at_call 29; refine HS.out.mono ?_; rintro e w2 ⟨rfl, hr2, hg2⟩; have HT := Lib.hid (And.intro hr2 hg2); clear hr2 hg2))
  go_ret
  exact ⟨_, rfl, HT.out.1, HR.out.2.grown HT.out.2 HR.out.2.size (fun k hk => (HR.out.1.lt k hk).1)⟩
/-- slices.Sorted(slices.Values(xs)): its two calls. -/
theorem values_at (a : Option Addr) (len cap : Nat) (w : World) :
    Calls Try.prog 21 #[.slice a len cap] w fun e w' => e = .returned (.func (.func 32) #[] #[.pointer (some ⟨w.heap.size, 0, none⟩)]) ∧ w' = w.alloc (.cells #[.slice a len cap] 32) :=
  (callsIn_wide (n := 6)).1 (values_in Fence.wide 6 trivial rfl a len cap w)
theorem sortedv_at (Bs n₀ : Nat) (sv : Value) (zs : List Int) (hreach : zs.length ≤ 1000000) (w : World) (hBs : Bs < w.heap.size) (hn₀ : n₀ ≤ w.heap.size) (hc : w.cell? ⟨Bs, 0, none⟩ = some sv) (hI : IntsAt n₀ w sv zs) :
    Calls Try.prog 20 #[.func (.func 32) #[] #[.pointer (some ⟨Bs, 0, none⟩)]] w fun e w' => ∃ v, e = .returned v ∧ w'.ownsRow w.heap.size 3 1 v zs.length (zv (srt zs)) ∧ Below w.heap.size w w' :=
  (callsIn_wide (n := 6)).1 (sortedv_in 6 (by omega) Bs n₀ sv zs hreach w hBs hn₀ hc hI)
end Go.Proofs.Ytlafmdpcabgcdaa
