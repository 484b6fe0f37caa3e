/-
  The walk of FeistelOnce.
-/
import Derived.Test.YtdpkjbjnjkoeaaaFeiO
namespace Go.Proofs.Ytdpkjbjnjkoeaaa
open Go.RowKit

theorem FB_one {f : Nat → Nat} {m i j j' : Nat} (h : FB f m i j) (h' : FB f m i j') : j = j' := by
  obtain ⟨D, h1, h2, h3, h4⟩ := h
  obtain ⟨D', k1, k2, k3, k4⟩ := h'
  have : D = D' := by
    by_cases c : D < D'
    · have := k4 D h1 c; omega
    · by_cases c' : D' < D
      · have := h4 D' k1 c'; omega
      · omega
  subst this
  rw [h2, k2]
theorem FB_is (h : Nat) (ks : List Nat) (m i : Nat) (hi : i < m) (hm : m ≤ 2 ^ h * 2 ^ h) : ∃ j, FB (turnN h ks) m i j := by
  obtain ⟨d, h1, _, h3, h4⟩ := first_back (f := turnN h ks) (M := 2 ^ h * 2 ^ h) (m := m) (fun x hx => turnN_lt ks hx) (fun x y hx hy e => turnN_inj ks hx hy e) i hi hm
  exact ⟨_, d, h1, rfl, h3, h4⟩
theorem FB_rev {h : Nat} {ks : List Nat} {m i j : Nat} (hi : i < m) (hm : m ≤ 2 ^ h * 2 ^ h) (hf : FB (turnN h ks) m i j) : FB (turnB h ks) m j i := by
  obtain ⟨D, h1, h2, h3, h4⟩ := hf
  have key : ∀ s, s ≤ D → iter (turnB h ks) s j = iter (turnN h ks) (D - s) i := by
    intro s hs
    rw [h2]
    exact back_iter (M := 2 ^ h * 2 ^ h) (fun x hx => turnN_lt ks hx) (fun x hx => turnB_turnN ks hx) D s i hs (by omega)
  refine ⟨D, h1, ?_, hi, fun s hs1 hs2 => ?_⟩
  · rw [key D (Nat.le_refl _), Nat.sub_self]; rfl
  · rw [key s (by omega)]; exact h4 (D - s) (by omega) (by omega)
open Classical in
/-- Where a place goes. -/
noncomputable def goes (h : Nat) (ks : List Nat) (m i : Nat) : Nat := if e : ∃ j, FB (turnN h ks) m i j then Classical.choose e else 0
theorem goes_to (h : Nat) (ks : List Nat) (m i : Nat) (hi : i < m) (hm : m ≤ 2 ^ h * 2 ^ h) : FB (turnN h ks) m i (goes h ks m i) := by
  have e := FB_is h ks m i hi hm
  unfold goes
  rw [dif_pos e]
  exact Classical.choose_spec e
theorem goes_lt (h : Nat) (ks : List Nat) (m i : Nat) (hi : i < m) (hm : m ≤ 2 ^ h * 2 ^ h) : goes h ks m i < m := by
  obtain ⟨_, _, _, h3, _⟩ := goes_to h ks m i hi hm
  exact h3
theorem goes_inj (h : Nat) (ks : List Nat) (m i i' : Nat) (hi : i < m) (hi' : i' < m) (hm : m ≤ 2 ^ h * 2 ^ h) (e : goes h ks m i = goes h ks m i') : i = i' := by
  have a := FB_rev hi hm (goes_to h ks m i hi hm)
  have b := FB_rev hi' hm (goes_to h ks m i' hi' hm)
  rw [e] at a
  exact FB_one a b

/-- A row of which just the places that the first i go to are true. -/
def ComeIs (xs : List Value) (T : Nat → Nat) (n i : Nat) : Prop := xs.length = n ∧ ∀ k, k < n → xs[k]? = some (.bool ((List.range i).any fun a => T a == k))
theorem ComeIs.start (n : Nat) (T : Nat → Nat) (xs : List Value) (h : xs = List.replicate n (.bool false)) : ComeIs xs T n 0 := by
  subst h
  refine ⟨by simp, fun k hk => ?_⟩
  simp [hk]
theorem ComeIs.step {xs : List Value} {T : Nat → Nat} {n i : Nat} (h : ComeIs xs T n i) (hl : T i < n) : ComeIs (xs.set (T i) (.bool true)) T n (i + 1) := by
  refine ⟨by simpa using h.1, fun k hk => ?_⟩
  rw [List.range_succ, List.any_append]
  by_cases e : k = T i
  · subst e
    rw [List.getElem?_set_self (by rw [h.1]; exact hl)]
    simp
  · rw [List.getElem?_set_ne (fun q => e q.symm), h.2 k hk]
    have : (T i == k) = false := by simpa using fun q => e q.symm
    simp [this]
theorem ComeIs.no {xs : List Value} {T : Nat → Nat} {n i : Nat} (h : ComeIs xs T n i) (hl : T i < n) (hne : ∀ a, a < i → T a ≠ T i) : xs[T i]? = some (.bool false) := by
  rw [h.2 _ hl]
  have : ((List.range i).any fun a => T a == T i) = false := by
    rw [List.any_eq_false]
    intro a ha
    simpa using hne a (by simpa using ha)
  rw [this]

theorem infoBool : (Try.prog.info? 4).map (fun i => (i.zero, i.size, i.bytes)) = some (some (.bool false), 1, 1) := by kernel_rfl

set_option maxRecDepth 100000 in
set_option maxHeartbeats 4000000 in
theorem walk_FeistelOnce (a0 a1 : Int) (w0 : (Lit.int .u16 a0).wf = true) (w1 : (Lit.int .u64 a1).wf = true) (w : World) :
    Calls Try.prog 4 #[.int .u16 a0, .int .u64 a1] w fun e w' => e = .returned (.bool true) ∧ Below w.heap.size w w' := by
  obtain ⟨i0, hi, hz0, hz1, hz2⟩ := info_parts infoBool
  have hb0 := bounds_u16 w0
  obtain ⟨key, rfl, hkey⟩ := natU64 w1
  obtain ⟨n, hn, hn1, hn2⟩ : ∃ n : Nat, 1 + a0 % 600 = (n : Int) ∧ 1 ≤ n ∧ n ≤ 600 := ⟨(1 + a0 % 600).toNat, by omega, by omega, by omega⟩
  clear w0 w1
  have HNew := Lib.hid (fun (w : World) => new_yes n key w hn1 (by omega) hkey)
  obtain ⟨hh1, hh2, hh3⟩ := halfN_b n (by omega)
  have kk := k4 (keyN key 0) (keyN key 1) (keyN key 2) (keyN key 3) (keyN_lt _ _) (keyN_lt _ _) (keyN_lt _ _) (keyN_lt _ _)
  obtain ⟨T, hT⟩ : ∃ T, T = goes (halfN n) [keyN key 0, keyN key 1, keyN key 2, keyN key 3] n := ⟨_, rfl⟩
  have HTo := Lib.hid (fun (i : Nat) (w : World) (hi : i < n) => to_yes n (halfN n) (keyN key 0) (keyN key 1) (keyN key 2) (keyN key 3) i (T i) w hh1 hh2 kk hi hh3 (by omega) (by rw [hT]; exact goes_to _ _ _ _ hi hh3))
  have HFrom := Lib.hid (fun (i : Nat) (w : World) (hi : i < n) => from_yes n (halfN n) (keyN key 0) (keyN key 1) (keyN key 2) (keyN key 3) (T i) i w hh1 hh2 kk (by rw [hT]; exact goes_lt _ _ _ _ hi hh3) hh3 (by omega) (by rw [hT]; exact FB_rev hi hh3 (goes_to _ _ _ _ hi hh3)))
  have HLt := Lib.hid (fun (i : Nat) (hi : i < n) => show T i < n by rw [hT]; exact goes_lt _ _ _ _ hi hh3)
  have HInj := Lib.hid (fun (i i' : Nat) (hi : i < n) (hi' : i' < n) (e : T i = T i') => goes_inj (halfN n) [keyN key 0, keyN key 1, keyN key 2, keyN key 3] n i i' hi hi' hh3 (by rw [← hT]; exact e))
  clear hT kk hh1 hh2 hh3 hkey
  generalize halfN n = H at *
  generalize keyN key 0 = q0 at *
  generalize keyN key 1 = q1 at *
  generalize keyN key 2 = q2 at *
  generalize keyN key 3 = q3 at *
  go_enter Try.func4, Try.ntmps4
  go_wp2_with fail
  refine (HNew.out _).mono ?_
  rintro e w1 ⟨rfl, hb1⟩
  have X1 := Holds.new w1 #[.int .i64 n, .int .i64 H, .int .u16 q0, .int .u16 q1, .int .u16 q2, .int .u16 q3] 27
  have B1 := below_new hb1 (Obj.cells #[.int .i64 n, .int .i64 H, .int .u16 q0, .int .u16 q1, .int .u16 q2, .int .u16 q3] 27)
  clear hb1
  go_wp2_with fail
  generalize w1.alloc (Obj.cells #[.int .i64 n, .int .i64 H, .int .u16 q0, .int .u16 q1, .int .u16 q2, .int .u16 q3] 27) = wa at *
  generalize w1.heap.size = p at *
  refine (wakes8_any _).mono ?_
  rintro e w2 ⟨rfl, hb2⟩
  have X2 := X1.below hb2
  have B2 := below_next B1 hb2
  clear hb2 X1 B1
  go_wp2_with (refine wpList_make_full _ rfl _ _ 36 rfl w2.heap.size 4 i0 (.bool false) 1 Try.underlying36 hi hz0 hz1 .i64 .i64 _ _ n rfl rfl rfl rfl (by rw [hz2]; omega) (by unfold maxLen; omega) (by simp) ?_; intro wm hown hgrow)
  have G1 : p ≠ w2.heap.size := by have := X2.lt; omega
  have BM : Below w2.heap.size w2 wm := (Below.refl _ _).grown hgrow (by simp) (fun k hk => by cases hk)
  have X3 := X2.below BM
  have B3 := below_next B2 BM
  have hc0 := ComeIs.start n T (madeCells (Value.cells (.bool false)) (n * 1)).toList (made_one _ rfl n)
  have HG : w.heap.size ≤ w2.heap.size := B2.size
  clear X2 B2 BM hgrow
  generalize w2.heap.size = gb at *
  go_loopw [30] (fun i wr => ∃ (k : Nat) (xs : List Value), k ≤ n ∧ i = .int .i64 k ∧ wr.ownsRow gb 4 1 (.slice (some ⟨gb, 0, none⟩) n n) n xs ∧ ComeIs xs T n k ∧ Holds wr p #[.int .i64 n, .int .i64 H, .int .u16 q0, .int .u16 q1, .int .u16 q2, .int .u16 q3] 27 ∧ Below w.heap.size w wr ∧ w.heap.size ≤ gb) (fun i _ => n - (intOf i).toNat)
  case atStart => exact ⟨0, _, by omega, rfl, hown, hc0, X3, B3, HG⟩
  case round =>
    clear hown hc0 X3 B3
    obtain ⟨k, xs, hk, rfl, hown, hcome, Xwr, B3, hgb⟩ := hrel
    have p0 : wr.cell? ⟨p, 0, none⟩ = some (.int .i64 n) := Xwr.cell 0
    have p1 : wr.cell? ⟨p, 1, none⟩ = some (.int .i64 H) := Xwr.cell 1
    have p2 : wr.cell? ⟨p, 2, none⟩ = some (.int .u16 q0) := Xwr.cell 2
    have p3 : wr.cell? ⟨p, 3, none⟩ = some (.int .u16 q1) := Xwr.cell 3
    have p4 : wr.cell? ⟨p, 4, none⟩ = some (.int .u16 q2) := Xwr.cell 4
    have p5 : wr.cell? ⟨p, 5, none⟩ = some (.int .u16 q3) := Xwr.cell 5
    by_cases hlt : k < n
    · have ht := HLt.out k hlt
      have HCT := Lib.hid (fun w => HTo.out k w hlt)
      have HCF := Lib.hid (fun w => HFrom.out k w hlt)
      have hno := hcome.no ht (fun a ha e => by have := HInj.out a k (by omega) hlt e; omega)
      have HST := Lib.hid (And.intro (hcome.step ht) hcome.1)
      clear hcome
      generalize T k = tk at *
      go_wp2_with fail
      refine (HCT.out _).mono ?_
      rintro e w3 ⟨rfl, hb3⟩
      have hown3 := own_keep hown hb3
      have Xw3 := Xwr.below hb3
      have B4 := below_next B3 hb3
      clear hown Xwr B3 hb3 p0 p1 p2 p3 p4 p5
      have p0 : w3.cell? ⟨p, 0, none⟩ = some (.int .i64 n) := Xw3.cell 0
      have p1 : w3.cell? ⟨p, 1, none⟩ = some (.int .i64 H) := Xw3.cell 1
      have p2 : w3.cell? ⟨p, 2, none⟩ = some (.int .u16 q0) := Xw3.cell 2
      have p3 : w3.cell? ⟨p, 3, none⟩ = some (.int .u16 q1) := Xw3.cell 3
      have p4 : w3.cell? ⟨p, 4, none⟩ = some (.int .u16 q2) := Xw3.cell 4
      have p5 : w3.cell? ⟨p, 5, none⟩ = some (.int .u16 q3) := Xw3.cell 5
      have hcell := hown3.cellAt tk (by have := HST.out.2; omega)
      rw [hno] at hcell
      go_wp2_with fail
      refine (HCF.out _).mono ?_
      rintro e w4 ⟨rfl, hb4⟩
      have hown4 := own_keep hown3 hb4
      have hst := hown4.stored tk (.bool true)
      have X5 := (Xw3.below hb4).far (a := ⟨gb, tk, none⟩) (by simpa using G1) (.bool true)
      have RR := Lib.hid (And.intro hst.1 (And.intro X5 ((below_next B4 hb4).setCell (p := ⟨gb, tk, none⟩) hgb (.bool true))))
      have hcell4 := hown4.cellAt tk (by have := HST.out.2; omega)
      rw [hno] at hcell4
      have hfr4 := hown4.frozenAt tk
      clear hown3 Xw3 B4 hb4 p0 p1 p2 p3 p4 p5 hcell hst X5 hown4 hno
      go_wp2
      go_roundw
      case rel => exact ⟨k + 1, _, by omega, by go_num, RR.out.1, HST.out.1, RR.out.2.1, RR.out.2.2, hgb⟩
      case measure => simp [intOf]; omega
    · obtain rfl : k = n := by omega
      have HB := Lib.hid B3
      clear hcome hown Xwr B3
      go_wp2_with fail
      go_ret
      exact ⟨rfl, HB.out⟩

end Go.Proofs.Ytdpkjbjnjkoeaaa
