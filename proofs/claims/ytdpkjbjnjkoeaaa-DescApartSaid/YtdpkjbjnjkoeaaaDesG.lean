/-
  The walk of DescLeast.
-/
import Derived.Test.YtdpkjbjnjkoeaaaDesE
import Derived.Test.YtdpkjbjnjkoeaaaFrameS
namespace Go.Proofs.Ytdpkjbjnjkoeaaa
open Go.RowKit

theorem minIs (P : Program) (L m k : Nat) (kI : Int) (hk : kI = k) (h : m = min L k) (ts : Array TypeId) (t : TypeId) (w : World) : (Builtin.min_ ts t #[.int .i64 (L : Int), .int .i64 kI]).run P w = .ok (.int .i64 (m : Int)) w := by
  subst hk
  rw [run_min_int2]
  have : (if (k : Int) < (L : Int) then (k : Int) else (L : Int)) = (m : Int) := by split <;> omega
  rw [this]
def hadA (D : Nat → Nat → Int × Int × Int) : Array Value := (Array.range 16).map fun i => .bool (decide ((D 0 i).2.1 ≠ 0))
theorem hadA_get (D : Nat → Nat → Int × Int × Int) (i : Nat) (h : i < 16) : (hadA D)[i]? = some (.bool (decide ((D 0 i).2.1 ≠ 0))) := by
  unfold hadA
  rw [Array.getElem?_map, Array.getElem?_range]
  simp [h]
theorem hadA_set (D : Nat → Nat → Int × Int × Int) (f : Nat) (v : Int × Int × Int) (b : Bool) (hb : decide (v.2.1 ≠ 0) = b) : (hadA D).setIfInBounds f (.bool b) = hadA (updD D 0 f v) := by
  apply Array.ext
  · simp [hadA]
  · intro i h1 h2
    have hi : i < 16 := by simpa [hadA] using h2
    rw [Array.getElem_setIfInBounds (by simpa [hadA] using hi)]
    by_cases e : f = i
    · subst e
      simp [hadA, updD_self, ← hb]
    · rw [if_neg e]
      have : updD D 0 f v 0 i = D 0 i := updD_ne D 0 f 0 i v (fun q => e q.2.symm)
      simp [hadA, this]
theorem hadA_none : hadA noneD = #[Value.bool false, Value.bool false, Value.bool false, Value.bool false, Value.bool false, Value.bool false, Value.bool false, Value.bool false, Value.bool false, Value.bool false, Value.bool false, Value.bool false, Value.bool false, Value.bool false, Value.bool false, Value.bool false] := by kernel_rfl
theorem firstFree (t : Nat → Int × Int × Int) : ∀ m, ∃ k, k ≤ m ∧ (∀ g, g < k → (t g).2.1 ≠ 0) ∧ (k < m → (t k).2.1 = 0) := by
  intro m
  induction m with
  | zero => exact ⟨0, Nat.le_refl _, fun g hg => by omega, fun h => by omega⟩
  | succ m ih =>
    obtain ⟨k, h1, h2, h3⟩ := ih
    by_cases c : k < m
    · exact ⟨k, by omega, h2, fun _ => h3 c⟩
    · by_cases d : (t k).2.1 = 0
      · exact ⟨k, by omega, h2, fun _ => d⟩
      · refine ⟨k + 1, by omega, fun g hg => ?_, fun _ => by omega⟩
        by_cases e : g = k
        · subst e; exact d
        · exact h2 g (by omega)

/-- What stands between two rounds. -/
structure Least (w : World) (bt br bh : Nat) (D : Nat → Nat → Int × Int × Int) (W : World) : Prop where
  tabs : Tabs W bt br 1 D
  had : Holds W bh (hadA D) 68
  gr : Gr [] w W
  b1 : w.heap.size ≤ bt
  b2 : w.heap.size ≤ br
  b3 : w.heap.size ≤ bh
  n1 : bh ≠ bt
  n2 : bh ≠ br
theorem Least.cell {w W : World} {bt br bh : Nat} {D : Nat → Nat → Int × Int × Int} (h : Least w bt br bh D W) {i : Nat} (hi : i < 16) : W.cell? ⟨bh, i, none⟩ = some (.bool (decide ((D 0 i).2.1 ≠ 0))) := by rw [h.had.cell, hadA_get D i hi]
theorem Least.fr {w W : World} {bt br bh : Nat} {D : Nat → Nat → Int × Int × Int} (h : Least w bt br bh D W) (i : Nat) : W.frozen? ⟨bh, i, none⟩ = false := h.had.frozen i
/-- A call that changes the tables, and then the note of it. -/
theorem Least.step {w W W1 : World} {bt br bh : Nat} {D : Nat → Nat → Int × Int × Int} (h : Least w bt br bh D W) {f : Nat} {v : Int × Int × Int} {b : Bool} (hb : decide (v.2.1 ≠ 0) = b) (T : Tabs W1 bt br 1 (updD D 0 f v)) (G : Gr [br] W W1) :
    Least w bt br bh (updD D 0 f v) (W1.setCell ⟨bh, f, none⟩ (.bool b)) := by
  have hh := (h.had.gr G (by simpa using h.n2)).set f (.bool b)
  rw [hadA_set D f v b hb] at hh
  have g1 : Gr [bh] W1 (W1.setCell ⟨bh, f, none⟩ (.bool b)) := (Gr.refl _ _).setCell (p := ⟨bh, f, none⟩) (.inl (by simp)) _
  refine ⟨T.gr g1 (by simpa using fun e => h.n1 e.symm) (by simpa using fun e => h.n2 e.symm), hh, ?_, h.b1, h.b2, h.b3, h.n1, h.n2⟩
  exact (h.gr.nextN G (fun x hx => by simp at hx; subst hx; exact .inr h.b2)).nextN g1 (fun x hx => by simp at hx; subst hx; exact .inr h.b3)
/-- A call that changes nothing, and a note that says so. -/
theorem Least.same {w W W1 : World} {bt br bh : Nat} {D : Nat → Nat → Int × Int × Int} (h : Least w bt br bh D W) (G : Gr [] W W1) : Least w bt br bh D W1 :=
  ⟨h.tabs.gr0 G, h.had.gr0 G, h.gr.next0 G, h.b1, h.b2, h.b3, h.n1, h.n2⟩
theorem Least.keep {w W : World} {bt br bh : Nat} {D : Nat → Nat → Int × Int × Int} (h : Least w bt br bh D W) {f : Nat} (h0 : (D 0 f).2.1 = 0) : Least w bt br bh D (W.setCell ⟨bh, f, none⟩ (.bool false)) := by
  have hh := h.had.set f (.bool false)
  rw [hadA_set D f (D 0 f) false (by simp [h0])] at hh
  have e : updD D 0 f (D 0 f) = D := by
    funext c' f'
    unfold updD
    split
    · rename_i q; rw [q.1, q.2]
    · rfl
  rw [e] at hh
  have g1 : Gr [bh] W (W.setCell ⟨bh, f, none⟩ (.bool false)) := (Gr.refl _ _).setCell (p := ⟨bh, f, none⟩) (.inl (by simp)) _
  exact ⟨h.tabs.gr g1 (by simpa using fun e => h.n1 e.symm) (by simpa using fun e => h.n2 e.symm), hh, h.gr.nextN g1 (fun x hx => by simp at hx; subst hx; exact .inr h.b3), h.b1, h.b2, h.b3, h.n1, h.n2⟩

set_option maxRecDepth 100000 in
set_option maxHeartbeats 4000000 in
theorem least_some (b off cap : Nat) (xs : List Int) (w : World) (hx : ∀ x ∈ xs, 0 ≤ x ∧ x ≤ 255) (hpos : 0 < xs.length) (hcap : xs.length ≤ cap) (hmax : cap ≤ maxLen) (hlt : b < w.heap.size) (hcell : ∀ i x, xs[i]? = some x → w.cell? ⟨b, off + i, none⟩ = some (.int .u8 x)) :
    Calls Try.prog 8 #[.slice (some ⟨b, off, none⟩) xs.length cap] w fun e w' => e = .returned (.bool true) ∧ Below w.heap.size w w' := by
  obtain ⟨M, hM⟩ : ∃ M, M = min xs.length 60 := ⟨_, rfl⟩
  have hmn := minIs Try.prog xs.length M 60 60 rfl hM
  have hM1 : M ≤ xs.length := by omega
  have hM2 : M ≤ 60 := by omega
  have HX := Lib.hid hx
  have HC := Lib.hid hcell
  unfold maxLen at hmax
  clear hx hcell hM
  obtain ⟨L, hL⟩ : ∃ L, xs.length = L := ⟨_, rfl⟩
  rw [hL] at hmn hpos hcap hM1 ⊢
  have HL := Lib.hid hL
  clear hL
  go_enter Try.func8, Try.ntmps8
  go_wp2_with fail
  refine (dnew_yes 1 _ (by omega) (by omega)).mono ?_
  rintro e w1 ⟨bt, br, rfl, T1, hbt, hbr, G1⟩
  go_wp2_with fail
  refine (wakes23_any _).mono ?_
  rintro e w2 ⟨rfl, G2⟩
  replace T1 := T1.gr0 G2
  replace G1 := G1.next0 G2
  clear G2
  go_wp2_with fail
  have hz := G1.size
  have q1 := T1.head.lt
  have q2 := T1.row.lt
  have LE : Least w bt br w2.heap.size noneD (w2.alloc (Obj.cells #[Value.bool false, Value.bool false, Value.bool false, Value.bool false, Value.bool false, Value.bool false, Value.bool false, Value.bool false, Value.bool false, Value.bool false, Value.bool false, Value.bool false, Value.bool false, Value.bool false, Value.bool false, Value.bool false] 68)) :=
    ⟨T1.gr0 ((Gr.refl _ _).alloc _), (by rw [hadA_none]; exact Holds.new w2 _ _), G1.alloc _, hbt, hbr, hz, by omega, by omega⟩
  clear T1 G1 hbt hbr q1 q2 hz
  generalize w2.alloc (Obj.cells #[Value.bool false, Value.bool false, Value.bool false, Value.bool false, Value.bool false, Value.bool false, Value.bool false, Value.bool false, Value.bool false, Value.bool false, Value.bool false, Value.bool false, Value.bool false, Value.bool false, Value.bool false, Value.bool false] 68) = wa at *
  generalize w2.heap.size = bh at *
  go_loopw [34] (fun i wr => ∃ (k : Nat) (D : Nat → Nat → Int × Int × Int), k ≤ M ∧ i = .int .i64 k ∧ Least w bt br bh D wr) (fun i _ => M - (intOf i).toNat)
  case atStart => exact ⟨0, noneD, by omega, rfl, LE⟩
  case round =>
    clear LE
    obtain ⟨k, D, hk, rfl, LE⟩ := hrel
    by_cases hkM : k < M
    · obtain ⟨x, hxk⟩ : ∃ x, xs[k]? = some x := ⟨_, List.getElem?_eq_getElem (by have := HL.out; omega)⟩
      have hxb := HX.out x (List.mem_of_getElem? hxk)
      have hcl : wr.cell? ⟨b, off + k, none⟩ = some (.int .u8 x) := by rw [LE.gr.cell0 hlt]; exact HC.out k x hxk
      obtain ⟨q, rfl⟩ := Int.eq_ofNat_of_zero_le hxb.1
      have hq : q < 256 := by omega
      clear hxk hxb
      by_cases c3 : q % 3 = 0
      · obtain ⟨fd, hfd, hfd2⟩ : ∃ fd : Nat, ((q : Int) / 3) % 16 = (fd : Int) ∧ fd < 16 := ⟨q / 3 % 16, by omega, by omega⟩
        have hd3 : ((q : Int) % 3 == 0) = true := by simp; omega
        have h16 := LE.cell hfd2
        have HLE := Lib.hid LE
        clear LE c3
        by_cases hz : (D 0 fd).2.1 = 0
        · have HGB := Lib.hid (fun W (T : Tabs W bt br 1 D) => close_err (.pointer (some ⟨bt, 0, none⟩)) (.int .i64 0) (.int .i64 fd) 19 W (by omega) (get_bad bt br 1 0 fd D W T (by omega) (.inr ⟨by omega, by omega, by simpa using hz⟩)))
          have HZ := Lib.hid hz
          clear hz
          go_wp2_with fail
          refine (HGB.out _ HLE.out.tabs).mono ?_
          rintro e w3 ⟨rfl, g3⟩
          have L3 := HLE.out.same g3
          have h16b := L3.cell hfd2
          rw [decide_eq_false (by simpa using HZ.out)] at h16b
          have hfr := L3.fr fd
          have HL4 := Lib.hid (L3.keep HZ.out)
          clear L3 g3 HLE HGB h16 hcl
          go_wp2
          go_roundw
          case rel => exact ⟨k + 1, D, by omega, by go_num, HL4.out⟩
          case measure => simp [intOf]; omega
        · have HCO := Lib.hid (fun W (T : Tabs W bt br 1 D) => close_ok bt br 1 0 fd D W T (by omega) hfd2 hz)
          have HZ := Lib.hid hz
          clear hz
          go_wp2_with fail
          refine (HCO.out _ HLE.out.tabs).mono ?_
          rintro e w3 ⟨rfl, T3, g3⟩
          have h16b : w3.cell? ⟨bh, fd, none⟩ = some (.bool true) := by
            rw [(HLE.out.had.gr g3 (by simpa using HLE.out.n2)).cell, hadA_get D fd hfd2, decide_eq_true (by simpa using HZ.out)]
          have hfr : w3.frozen? ⟨bh, fd, none⟩ = false := (HLE.out.had.gr g3 (by simpa using HLE.out.n2)).frozen fd
          have HL4 := Lib.hid (HLE.out.step (f := fd) (v := (0, 0, 0)) (b := false) rfl T3 g3)
          clear T3 g3 HLE HCO h16 hcl
          go_wp2
          go_roundw
          case rel => exact ⟨k + 1, _, by omega, by go_num, HL4.out⟩
          case measure => simp [intOf]; omega
      · have hd3 : ((q : Int) % 3 == 0) = false := by simp; omega
        obtain ⟨K, hK1, hK2, hK3⟩ := firstFree (D 0) 16
        have HLE := Lib.hid LE
        have HK := Lib.hid (And.intro hK2 hK3)
        clear LE c3 hK2 hK3
        go_wp2_with fail
        obtain ⟨wo, hwo⟩ : ∃ wo : World, wo = wr := ⟨_, rfl⟩
        rw [← hwo] at HLE
        rw [← hwo]
        clear hwo hcl
        go_loopw [11] (fun u wr => ∃ j : Nat, j ≤ K ∧ u = .int .i64 j ∧ wo = wr) (fun u _ => K + 1 - (intOf u).toNat)
        case atStart => exact ⟨0, by omega, rfl, rfl⟩
        case round =>
          obtain ⟨j, hj, rfl, rfl⟩ := hrel
          by_cases hjK : j < K
          · have h16 := HLE.out.cell (show j < 16 by omega)
            rw [decide_eq_true (HK.out.1 j hjK)] at h16
            go_wp2
            go_roundw
            case rel => exact ⟨j + 1, by omega, by go_num, by first | rfl | trivial⟩
            case measure => simp [intOf]; omega
          · obtain rfl : j = K := by omega
            by_cases hK16 : j = 16
            · subst hK16
              have HAF := Lib.hid (fun W (T : Tabs W bt br 1 D) => add_full bt br 1 0 1 1 D W T (by omega) (by omega) (by omega) HK.out.1)
              clear hjK hj
              go_wp2_with fail
              refine (HAF.out _ HLE.out.tabs).mono ?_
              rintro e w3 ⟨rfl, g3⟩
              have HL4 := Lib.hid (HLE.out.same g3)
              clear g3 HLE HAF
              go_wp2
              go_roundw
              case rel => exact ⟨k + 1, D, by omega, by go_num, HL4.out⟩
              case measure => simp [intOf]; omega
            · have hK : j < 16 := by omega
              have h16 := HLE.out.cell hK
              rw [decide_eq_false (by simpa using HK.out.2 hK)] at h16
              have HAO := Lib.hid (fun W (T : Tabs W bt br 1 D) => add_ok bt br 1 0 j 1 1 D W T (by omega) (by omega) (by omega) hK (HK.out.2 hK) HK.out.1)
              have hd16 : ((j : Int) == 16) = false := by simp; omega
              clear hjK hj hK16
              go_wp2_with fail
              refine (HAO.out _ HLE.out.tabs).mono ?_
              rintro e w3 ⟨rfl, T3, g3⟩
              have h16b : w3.cell? ⟨bh, j, none⟩ = some (.bool false) := by
                rw [(HLE.out.had.gr g3 (by simpa using HLE.out.n2)).cell, hadA_get D j hK, decide_eq_false (by simpa using HK.out.2 hK)]
              have hfr : w3.frozen? ⟨bh, j, none⟩ = false := (HLE.out.had.gr g3 (by simpa using HLE.out.n2)).frozen j
              have HL4 := Lib.hid (HLE.out.step (f := j) (v := (1, 1, 0)) (b := true) rfl T3 g3)
              clear T3 g3 HLE HAO h16
              go_wp2
              go_roundw
              case rel => exact ⟨k + 1, _, by omega, by go_num, HL4.out⟩
              case measure => simp [intOf]; omega
    · obtain rfl : k = M := by omega
      have HB := Lib.hid LE.gr.below0
      clear LE
      go_wp2_with fail
      go_ret
      exact ⟨rfl, HB.out⟩

set_option maxRecDepth 100000 in
set_option maxHeartbeats 2000000 in
theorem least_none (ao : Option Addr) (cap : Nat) (w : World) (hn : ao = none → cap = 0) (hmax : cap ≤ maxLen) :
    Calls Try.prog 8 #[.slice ao 0 cap] w fun e w' => e = .returned (.bool true) ∧ Below w.heap.size w w' := by
  have hmn := minIs Try.prog 0 0 60 60 rfl rfl
  unfold maxLen at hmax
  have HN := Lib.hid hn
  clear hn
  cases ao with
  | none =>
    obtain rfl := HN.out rfl
    go_enter Try.func8, Try.ntmps8
    go_wp2_with fail
    refine (dnew_yes 1 _ (by omega) (by omega)).mono ?_
    rintro e w1 ⟨bt, br, rfl, T1, hbt, hbr, G1⟩
    go_wp2_with fail
    refine (wakes23_any _).mono ?_
    rintro e w2 ⟨rfl, G2⟩
    have HG := Lib.hid (G1.next0 G2)
    clear G1 G2
    go_wp2_with fail
    refine wp_loop_rounds 1 ?_
    rw [rounds_succ]
    go_wp2_with fail
    go_ret
    exact ⟨rfl, (HG.out.alloc _).below0⟩
  | some a =>
    clear HN
    go_enter Try.func8, Try.ntmps8
    go_wp2_with fail
    refine (dnew_yes 1 _ (by omega) (by omega)).mono ?_
    rintro e w1 ⟨bt, br, rfl, T1, hbt, hbr, G1⟩
    go_wp2_with fail
    refine (wakes23_any _).mono ?_
    rintro e w2 ⟨rfl, G2⟩
    have HG := Lib.hid (G1.next0 G2)
    clear G1 G2
    go_wp2_with fail
    refine wp_loop_rounds 1 ?_
    rw [rounds_succ]
    go_wp2_with fail
    go_ret
    exact ⟨rfl, (HG.out.alloc _).below0⟩

theorem walk_DescLeast (v : Value) (xs : List Int) {w : World} (h : SlI .u8 w v xs) (hx : ∀ x ∈ xs, (Lit.int .u8 x).wf = true) :
    Calls Try.prog 8 #[v] w fun e w' => e = .returned (.bool true) ∧ Below w.heap.size w w' := by
  rcases h with ⟨ao, cap, rfl, rfl, hn, hm⟩ | ⟨b, off, cap, rfl, h1, h2, h3, h4, h5⟩
  · exact least_none ao cap w hn hm
  · exact least_some b off cap xs w (fun x q => bounds_u8 (hx x q)) h1 h2 h3 h4 h5

end Go.Proofs.Ytdpkjbjnjkoeaaa
