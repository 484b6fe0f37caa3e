/-
  TaAg: SlE, ExPq, ExA, ExB, InG.
-/
import Derived.Test.YtgleopahldpajaaGreatTaAa
import Derived.Test.YtgleopahldpajaaGreatTaAf
import Derived.Test.YtgleopahldpajaaGreatTaAb
import Derived.StillTailTactics
import Derived.Deep.AppendLies
import Derived.BigRegion
import Derived.KernelRfl
import Derived.Shelf.Strings.Search3
import Derived.Lib.IndexAny

set_option linter.unusedVariables false

/-
  Slices of pairs of ints (two cells an element), as lists.
-/
namespace Go.Proofs.YtgleopahldpajaaGreat
open Go.RowKit

/-- The cells of a list of pairs. -/
def cells2 (l : List (Int × Int)) : List Value := l.flatMap fun e => [.int .i64 e.1, .int .i64 e.2]
theorem cells2_cons (e : Int × Int) (l : List (Int × Int)) : cells2 (e :: l) = .int .i64 e.1 :: .int .i64 e.2 :: cells2 l := rfl
theorem cells2_len (l : List (Int × Int)) : (cells2 l).length = l.length * 2 := by
  induction l with
  | nil => rfl
  | cons e r ih => rw [cells2_cons, List.length_cons, List.length_cons, ih, List.length_cons]; omega
theorem cells2_get (l : List (Int × Int)) (i : Nat) (e : Int × Int) (h : l[i]? = some e) : (cells2 l)[i * 2]? = some (.int .i64 e.1) ∧ (cells2 l)[i * 2 + 1]? = some (.int .i64 e.2) := by
  induction l generalizing i with
  | nil => cases h
  | cons x r ih =>
    cases i with
    | zero => simp at h; subst h; exact ⟨rfl, rfl⟩
    | succ i =>
      have := ih i (by simpa using h)
      rw [cells2_cons, show (i + 1) * 2 = i * 2 + 1 + 1 by omega]
      simpa using this
theorem cells2_one (l : List (Int × Int)) : ∀ u ∈ cells2 l, u.oneCell' = true := by
  intro u hu
  obtain ⟨e, _, he⟩ := List.mem_flatMap.1 hu
  simp at he
  rcases he with rfl | rfl <;> rfl

/-- The cells from an address on read as the pairs. -/
def Rd2 (w : World) (ao : Option Addr) (l : List (Int × Int)) : Prop :=
  ∀ i e, l[i]? = some e → ∃ b o, ao = some ⟨b, o, none⟩ ∧ b < w.heap.size ∧ w.cell? ⟨b, o + i * 2, none⟩ = some (.int .i64 e.1) ∧ w.cell? ⟨b, o + i * 2 + 1, none⟩ = some (.int .i64 e.2)
theorem Rd2.nil (w : World) (ao : Option Addr) : Rd2 w ao [] := fun i e h => by simp at h
theorem Rd2.gr {w w' : World} {ao : Option Addr} {l : List (Int × Int)} {bs : List Nat} (h : Rd2 w ao l) (g : Gr bs w w') (hn : ∀ b o, ao = some ⟨b, o, none⟩ → b ∉ bs) : Rd2 w' ao l := by
  intro i e hi
  obtain ⟨b, o, rfl, h1, h2, h3⟩ := h i e hi
  have q := g.block b h1 (hn b o rfl)
  exact ⟨b, o, rfl, Nat.lt_of_lt_of_le h1 g.size, (World.cell?_of_block (a := ⟨b, _, none⟩) q).trans h2, (World.cell?_of_block (a := ⟨b, _, none⟩) q).trans h3⟩
theorem Rd2.gr0 {w w' : World} {ao : Option Addr} {l : List (Int × Int)} (h : Rd2 w ao l) (g : Gr [] w w') : Rd2 w' ao l := h.gr g (by simp)
theorem Rd2.below {w w' : World} {ao : Option Addr} {l : List (Int × Int)} (h : Rd2 w ao l) (g : Below w.heap.size w w') : Rd2 w' ao l := h.gr0 (.ofBelow g)
/-- The slice v reads as the pairs l. -/
def Sl2 (w : World) (v : Value) (l : List (Int × Int)) : Prop := ∃ ao cap, v = .slice ao l.length cap ∧ Rd2 w ao l ∧ l.length ≤ cap ∧ cap ≤ maxLen ∧ (ao = none → cap = 0)
theorem Sl2.gr {w w' : World} {v : Value} {l : List (Int × Int)} {bs : List Nat} (h : Sl2 w v l) (g : Gr bs w w') (hn : ∀ b, v.ownBlock = some b → b ∉ bs) : Sl2 w' v l := by
  obtain ⟨ao, cap, rfl, h1, h2⟩ := h
  exact ⟨ao, cap, rfl, h1.gr g (fun b o e => hn b (by subst e; rfl)), h2⟩
theorem Sl2.gr0 {w w' : World} {v : Value} {l : List (Int × Int)} (h : Sl2 w v l) (g : Gr [] w w') : Sl2 w' v l := h.gr g (by simp)
theorem Sl2.nil (w : World) : Sl2 w (.slice none 0 0) [] := ⟨none, 0, rfl, Rd2.nil _ _, Nat.le_refl _, Nat.zero_le _, fun _ => rfl⟩
theorem own_sl2 {w : World} {base : Nat} {e : TypeId} {n : Nat} {v : Value} {l : List (Int × Int)} (h : w.ownsRow base e 2 v n (cells2 l)) : Sl2 w v l := by
  have hn : n = l.length := by have := h.1; rw [cells2_len] at this; omega
  subst hn
  have hl := h.lt
  have hc := fun g => h.cells (g := g)
  rcases h.2 with ⟨rfl, h0⟩ | ⟨g, cap, cur, rfl, hb, hg, h1, h2, h3, h4⟩
  · have : l = [] := List.length_eq_zero_iff.1 h0
    subst this
    exact Sl2.nil w
  · refine ⟨some ⟨g, 0, none⟩, cap, rfl, fun i x hi => ?_, h1, h2, fun e => by cases e⟩
    obtain ⟨q1, q2⟩ := cells2_get l i x hi
    have hadd : ∀ j, (⟨g, 0, none⟩ : Addr).add j = ⟨g, j, none⟩ := fun j => by unfold Addr.add; split <;> simp_all
    refine ⟨g, 0, rfl, (hl g rfl).2, ?_, ?_⟩
    · have := hc g rfl (i * 2) _ q1
      rw [hadd] at this
      rw [Nat.zero_add]; exact this
    · have := hc g rfl (i * 2 + 1) _ q2
      rw [hadd] at this
      rw [Nat.zero_add]; exact this
theorem Rd2.cells {w : World} {ao : Option Addr} {l : List (Int × Int)} (h : Rd2 w ao l) {a : Addr} (ha : ao = some a) : ∀ j u, (cells2 l)[j]? = some u → w.cell? (a.add j) = some u := by
  intro j u hj
  have hlen := (List.getElem?_eq_some_iff.1 hj).1
  rw [cells2_len] at hlen
  have hi : j / 2 < l.length := by omega
  have q := List.getElem?_eq_getElem hi
  obtain ⟨q1, q2⟩ := cells2_get l _ _ q
  obtain ⟨b, o, hb, h1, h2, h3⟩ := h _ _ q
  rw [ha] at hb
  injection hb with hb
  subst hb
  have hadd : ∀ k, (⟨b, o, none⟩ : Addr).add k = ⟨b, o + k, none⟩ := fun k => by unfold Addr.add; split <;> simp_all
  rw [hadd]
  by_cases e : j % 2 = 0
  · have : j = j / 2 * 2 := by omega
    rw [this] at hj ⊢
    rw [q1] at hj
    injection hj with hj
    rw [← hj]; exact h2
  · have : j = j / 2 * 2 + 1 := by omega
    rw [this] at hj ⊢
    rw [q2] at hj
    injection hj with hj
    rw [← hj, ← Nat.add_assoc]; exact h3

end Go.Proofs.YtgleopahldpajaaGreat

/-
  Layer 15: two facts of rows of pairs.
-/
namespace Go.Proofs.YtgleopahldpajaaGreat
open Go.RowKit

theorem sl2_parts {w : World} {ao : Option Addr} {n cap : Nat} {l : List (Int × Int)} (h : Sl2 w (.slice ao n cap) l) : n = l.length ∧ Rd2 w ao l ∧ n ≤ cap ∧ cap ≤ maxLen ∧ (ao = none → cap = 0) := by
  obtain ⟨a, c, hv, h1, h2, h3, h4⟩ := h
  injection hv with q1 q2 q3
  subst q1 q2 q3
  exact ⟨rfl, h1, h2, h3, h4⟩
end Go.Proofs.YtgleopahldpajaaGreat

/-
  Layer 15: the program's merge, Right, Blocks, Held, spot, Map.
-/
namespace Go.Proofs.YtgleopahldpajaaGreat
open Go.RowKit

theorem kcall_of {P : Program} {f : FuncId} {args : Array Value} {w : World} {v : Value} (h : Calls P f args w fun e w' => e = .returned v ∧ Gr [] w w') : Calls P f args w fun e w' => e = .returned v ∧ Below w.heap.size w w' :=
  h.mono fun _ _ q => ⟨q.1, q.2.below0⟩
theorem emerge_any (a1 a2 b1 b2 : Int) (w : World) (h : IntKind.i64.wrap (a1 + a2) = a1 + a2) :
    Calls Tryz.prog 147 #[.agg #[.int .i64 a1, .int .i64 a2], .agg #[.int .i64 b1, .int .i64 b2]] w fun e w' => e = .returned (.bool (mrg (a1, a2) (b1, b2))) ∧ Gr [] w w' := by
  have HG := Lib.hid (((Gr.refl [] w).alloc (Obj.cells #[.int .i64 a1, .int .i64 a2] 158)).alloc (Obj.cells #[.int .i64 b1, .int .i64 b2] 158))
  by_cases h1 : a1 = -1
  · have d1 : (a1 == -1) = true := by simpa using h1
    have HM := Lib.hid (show mrg (a1, a2) (b1, b2) = (a1 == b1) by unfold mrg; rw [if_pos (.inl h1)]; rfl)
    clear h1
    go_enter Tryz.func147, Tryz.ntmps147
    go_wp2_with fail
    go_ret
    exact ⟨by rw [HM.out]; rfl, HG.out⟩
  · have d1 : (a1 == -1) = false := by simpa using h1
    by_cases h2 : b1 = -1
    · have d2 : (b1 == -1) = true := by simpa using h2
      have HM := Lib.hid (show mrg (a1, a2) (b1, b2) = (a1 == b1) by unfold mrg; rw [if_pos (.inr h2)]; rfl)
      clear h1 h2
      go_enter Tryz.func147, Tryz.ntmps147
      go_wp2_with fail
      go_ret
      exact ⟨by rw [HM.out]; rfl, HG.out⟩
    · have d2 : (b1 == -1) = false := by simpa using h2
      have HM := Lib.hid (show mrg (a1, a2) (b1, b2) = (a1 + a2 == b1) by unfold mrg; rw [if_neg (fun q => q.elim h1 h2)]; rfl)
      clear h1 h2
      go_enter Tryz.func147, Tryz.ntmps147
      go_wp2_with fail
      go_ret
      exact ⟨by rw [HM.out]; rfl, HG.out⟩
theorem bad_entry {l : List (Int × Int)} {k : Nat} {e : Int × Int} (h : l[k]? = some e) (hb : ¬ (-1 ≤ e.1 ∧ e.1 ≤ 65536 ∧ 1 ≤ e.2 ∧ e.2 ≤ 65536)) : ¬ Right15 l :=
  fun q => hb ((okK_all q.2.1).1 e (List.mem_of_getElem? h))

set_option maxHeartbeats 4000000 in
set_option maxRecDepth 20000 in
theorem eright_any (l : List (Int × Int)) (L : Nat) (ao : Option Addr) (cap : Nat) (w : World) (h : Rd2 w ao l) (hL : L = l.length) :
    Calls Tryz.prog 93 #[.slice ao L cap] w fun e w' => (∃ b : Bool, (b = true ↔ Right15 l) ∧ e = .returned (.bool b)) ∧ Gr [] w w' := by
  have HR := Lib.hid h
  have HL := Lib.hid hL
  have HG := Lib.hid (Gr.refl [] w)
  clear h hL
  by_cases h64 : 64 < L
  · have d1 : decide ((64 : Int) < (L : Int)) = true := by simp; omega
    have HF := Lib.hid (show ¬ Right15 l from fun q => by have := q.1; have := HL.out; omega)
    go_enter Tryz.func93, Tryz.ntmps93
    go_wp2_with fail
    go_ret
    exact ⟨⟨false, ⟨fun q => by (cases q), fun q => absurd q HF.out⟩, rfl⟩, HG.out⟩
  · have d1 : decide ((64 : Int) < (L : Int)) = false := by simp; omega
    have hL64 : L ≤ 64 := by omega
    go_enter Tryz.func93, Tryz.ntmps93
    go_wp2_with fail
    clear d1 h64
    go_loopw [3, 11] (fun s i wr => ∃ k : Nat, k ≤ L ∧ i = .int .i64 k ∧ s = .int .i64 (sumZ (l.take k)) ∧ Hid (okK l k) ∧ Gr [] w wr) (fun _ i _ => L - (intOf i).toNat)
    case atStart => exact ⟨0, by omega, rfl, rfl, Lib.hid (okK_zero l), HG.out⟩
    case round =>
      clear HG
      obtain ⟨k, hk, rfl, rfl, HOK, G⟩ := hrel
      have hsb := sumZ_bound HOK.out
      by_cases hkL : k < L
      · have hkL2 : (k : Int) < (L : Int) := by omega
        obtain ⟨⟨e1, e2⟩, he⟩ : ∃ e, l[k]? = some e := ⟨_, List.getElem?_eq_getElem (by have := HL.out; omega)⟩
        obtain ⟨b, o, hao, hb, x0, x1⟩ := HR.out k _ he
        have y0 : wr.cell? ⟨b, o + k * 2, none⟩ = some (.int .i64 e1) := (G.cell0 hb).trans x0
        have y1 : wr.cell? ⟨b, o + k * 2 + 1, none⟩ = some (.int .i64 e2) := (G.cell0 hb).trans x1
        have HEE := Lib.hid he
        have ga := G.alloc (Obj.cells #[.int .i64 e1, .int .i64 e2] 158)
        have HGA := Lib.hid ga
        have HX := Lib.hid (Holds.new wr #[.int .i64 e1, .int .i64 e2] 158)
        have z0 := HX.out.cell 0
        have z1 := HX.out.cell 1
        obtain ⟨s1, hs1⟩ : ∃ s1, s1 = sumZ (l.take k) := ⟨_, rfl⟩
        rw [← hs1] at hsb ⊢
        have HS1 := Lib.hid hs1
        subst hao
        clear ga x0 x1 G he hs1
        by_cases hbad : -1 ≤ e1 ∧ e1 ≤ 65536 ∧ 1 ≤ e2 ∧ e2 ≤ 65536
        · have d1 : decide (e2 < 1) = false := decide_eq_false (by omega)
          have d2 : decide (65536 < e2) = false := decide_eq_false (by omega)
          have d3 : decide (e1 < -1) = false := decide_eq_false (by omega)
          have d4 : decide (65536 < e1) = false := decide_eq_false (by omega)
          have hsum : sumZ (l.take (k + 1)) = s1 + e2 := by rw [sumZ_take HEE.out, HS1.out]
          have HSUM := Lib.hid hsum
          have HBD := Lib.hid hbad
          have hw : IntKind.i64.wrap (s1 + e2) = s1 + e2 := IntWalk.i64_in _ (by
            have q1 := hsb.1
            have q2 := hsb.2
            have : (65536 : Int) * (k : Int) ≤ 65536 * 64 := by omega
            omega)
          clear hsum
          by_cases hk0 : k = 0
          · subst hk0
            rw [Nat.zero_mul, Nat.add_zero] at y0 y1
            have HOK2 := Lib.hid (okK_one HEE.out HBD.out)
            clear hbad hsb
            go_wp2_with fail
            go_quiet (fail)
            have z1 : ((wr.alloc (Obj.cells #[.int .i64 e1, .int .i64 e2] 158)).drewN nq).cell? ⟨wr.heap.size, 1, none⟩ = some (.int .i64 e2) := (HX.out.gr0 ((Gr.refl [] _).drewN nq)).cell 1
            go_wp2_with fail
            go_roundw
            case rel => exact ⟨1, by omega, rfl, by rw [HSUM.out], HOK2, HGA.out.drewN _⟩
            case measure => simp [intOf]; omega
          · obtain ⟨j, hj⟩ : ∃ j, j + 1 = k := ⟨k - 1, by omega⟩
            obtain ⟨⟨p1, p2⟩, hp⟩ : ∃ p, l[j]? = some p := ⟨_, List.getElem?_eq_getElem (by have := HL.out; omega)⟩
            obtain ⟨b', o', hao', hb', v0, v1⟩ := HR.out j _ hp
            injection hao' with hao'
            injection hao' with q1 q2
            subst q1 q2
            have hpm : -1 ≤ p1 ∧ p1 ≤ 65536 ∧ 1 ≤ p2 ∧ p2 ≤ 65536 := HOK.out.1 (p1, p2) (by
              obtain ⟨c1, c2⟩ := List.getElem?_eq_some_iff.1 hp
              rw [← hj, List.take_succ_eq_append_getElem c1, c2]
              exact List.mem_append.2 (.inr (List.mem_singleton.2 rfl)))
            have hj2 : (k : Int) - 1 = (j : Int) := by omega
            have hk1 : (0 : Int) < (k : Int) := by omega
            have hjL : j < L := by omega
            have dk : decide (0 < k) = true := decide_eq_true (by omega)
            have hj3 : IntKind.i64.wrap (j : Int) = (j : Int) := IntWalk.i64_in _ (by omega)
            have hj4 : (0 : Int) ≤ (j : Int) := by omega
            have hj5 : (j : Int) < (L : Int) := by omega
            have HJ := Lib.hid hj
            have hstep := okK_step hp (by rw [hj]; exact HEE.out) (by rw [hj]; exact HOK.out) HBD.out
            rw [show j + 2 = k + 1 by omega] at hstep
            have HST := Lib.hid hstep
            obtain ⟨m, hm⟩ : ∃ m, m = mrg (p1, p2) (e1, e2) := ⟨_, rfl⟩
            rw [← hm] at HST
            have k0 := kp_cell z0
            have k1 := kp_cell z1
            have u0 := kp_cell ((HGA.out.cell0 hb').trans v0)
            have u1 := kp_cell ((HGA.out.cell0 hb').trans v1)
            have hne := kp_ne (wr.alloc (Obj.cells #[.int .i64 e1, .int .i64 e2] 158))
            have P1 := Lib.hid (fun x : Cls (Kp (wr.alloc (Obj.cells #[.int .i64 e1, .int .i64 e2] 158))) => kcall_of (emerge_any p1 p2 e1 e2 x.w (IntWalk.i64_in _ (by omega))))
            rw [← hm] at P1
            clear hm hj hstep hbad hsb v0 v1 hp hpm
            go_wp2_with fail
            cases m with
            | true =>
              refine wp_region_kp (by kernel_rfl) (by kernel_rfl) ?_
              repeat (go_big_quiet_step ((rename_i x; with_reducible exact kp_call x (P1.out x))))
              with_reducible refine wpQuiet_nil ?_
              rintro _ ⟨y, rfl⟩
              have HGY := Lib.hid (HGA.out.nextB y.h)
              have HNO := Lib.hid (show ¬ Right15 l from fun q => by
                have := HST.out.1 (okK_le q.2.1 (by have := HL.out; omega))
                cases this)
              clear k0 k1 u0 u1 hne P1
              generalize y.w = wy at *
              clear y
              go_wp2_with fail
              go_ret
              exact ⟨⟨false, ⟨fun q => by (cases q), fun q => absurd q HNO.out⟩, rfl⟩, HGY.out⟩
            | false =>
              refine wp_region_kp (by kernel_rfl) (by kernel_rfl) ?_
              repeat (go_big_quiet_step ((rename_i x; with_reducible exact kp_call x (P1.out x))))
              with_reducible refine wpQuiet_nil ?_
              rintro _ ⟨y, rfl⟩
              have HGY := Lib.hid (HGA.out.nextB y.h)
              have z1 := k1 y
              clear k0 k1 u0 u1 hne P1 z0
              generalize y.w = wy at *
              clear y
              go_wp2_with fail
              go_roundw
              case rel => exact ⟨k + 1, by omega, by go_num, by rw [HSUM.out], Lib.hid (HST.out.2 rfl), HGY.out⟩
              case measure => simp [intOf]; omega
        · have HNO := Lib.hid (bad_entry HEE.out hbad)
          have hcase : e2 < 1 ∨ (¬ e2 < 1 ∧ 65536 < e2) ∨ (¬ e2 < 1 ∧ ¬ 65536 < e2 ∧ e1 < -1) ∨ (¬ e2 < 1 ∧ ¬ 65536 < e2 ∧ ¬ e1 < -1 ∧ 65536 < e1) := by omega
          clear hbad hsb
          rcases hcase with q | ⟨q, r⟩ | ⟨q, r, s⟩ | ⟨q, r, s, t⟩
          · have d1 : decide (e2 < 1) = true := decide_eq_true q
            clear q
            go_wp2_with fail
            go_ret
            exact ⟨⟨false, ⟨fun q => by (cases q), fun q => absurd q HNO.out⟩, rfl⟩, HGA.out⟩
          · have d1 : decide (e2 < 1) = false := decide_eq_false q
            have d2 : decide (65536 < e2) = true := decide_eq_true r
            clear q r
            go_wp2_with fail
            go_ret
            exact ⟨⟨false, ⟨fun q => by (cases q), fun q => absurd q HNO.out⟩, rfl⟩, HGA.out⟩
          · have d1 : decide (e2 < 1) = false := decide_eq_false q
            have d2 : decide (65536 < e2) = false := decide_eq_false r
            have d3 : decide (e1 < -1) = true := decide_eq_true s
            clear q r s
            go_wp2_with fail
            go_ret
            exact ⟨⟨false, ⟨fun q => by (cases q), fun q => absurd q HNO.out⟩, rfl⟩, HGA.out⟩
          · have d1 : decide (e2 < 1) = false := decide_eq_false q
            have d2 : decide (65536 < e2) = false := decide_eq_false r
            have d3 : decide (e1 < -1) = false := decide_eq_false s
            have d4 : decide (65536 < e1) = true := decide_eq_true t
            clear q r s t
            go_wp2_with fail
            go_ret
            exact ⟨⟨false, ⟨fun q => by (cases q), fun q => absurd q HNO.out⟩, rfl⟩, HGA.out⟩
      · obtain rfl : k = L := by omega
        have HGL := Lib.hid G
        have ht : l.take k = l := by rw [HL.out]; exact List.take_length
        rw [ht] at hsb ⊢
        have HFIN := Lib.hid (show decide (sumZ l ≤ 65536) = true ↔ Right15 l by
          rw [decide_eq_true_iff]
          exact ⟨fun q => ⟨by have := HL.out; omega, by rw [← HL.out]; exact HOK.out, q⟩, fun q => q.2.2⟩)
        clear hsb ht G
        go_wp2_with fail
        go_ret
        exact ⟨⟨_, HFIN.out, rfl⟩, HGL.out⟩
theorem eright_yes (l : List (Int × Int)) (L : Nat) (ao : Option Addr) (cap : Nat) (w : World) (h : Rd2 w ao l) (hL : L = l.length) (hr : Right15 l) :
    Calls Tryz.prog 93 #[.slice ao L cap] w fun e w' => e = .returned (.bool true) ∧ Gr [] w w' := by
  refine (eright_any l L ao cap w h hL).mono ?_
  rintro e w' ⟨⟨b, hb, rfl⟩, g⟩
  rw [hb.2 hr]
  exact ⟨rfl, g⟩
theorem eright_no (l : List (Int × Int)) (L : Nat) (ao : Option Addr) (cap : Nat) (w : World) (h : Rd2 w ao l) (hL : L = l.length) (hr : ¬ Right15 l) :
    Calls Tryz.prog 93 #[.slice ao L cap] w fun e w' => e = .returned (.bool false) ∧ Gr [] w w' := by
  refine (eright_any l L ao cap w h hL).mono ?_
  rintro e w' ⟨⟨b, hb, rfl⟩, g⟩
  cases b with
  | true => exact absurd (hb.1 rfl) hr
  | false => exact ⟨rfl, g⟩

end Go.Proofs.YtgleopahldpajaaGreat

/-
  Layer 15: the program's Blocks, Held, spot, Map.
-/
namespace Go.Proofs.YtgleopahldpajaaGreat
open Go.RowKit

/-- How many blocks there are, but for holes. -/
def heldZ : List (Int × Int) → Int
  | [] => 0
  | e :: r => (if e.1 = -1 then 0 else e.2) + heldZ r
theorem heldZ_append (A B : List (Int × Int)) : heldZ (A ++ B) = heldZ A + heldZ B := by
  induction A with
  | nil => simp [heldZ]
  | cons e r ih => simp only [List.cons_append, heldZ, ih]; omega
theorem heldZ_take {l : List (Int × Int)} {k : Nat} {e : Int × Int} (h : l[k]? = some e) : heldZ (l.take (k + 1)) = heldZ (l.take k) + if e.1 = -1 then 0 else e.2 := by
  obtain ⟨a, b⟩ := List.getElem?_eq_some_iff.1 h
  rw [List.take_succ_eq_append_getElem a, b, heldZ_append]
  simp [heldZ]
/-- Each run is of few blocks. -/
def smallP (l : List (Int × Int)) : Prop := l.length ≤ 70 ∧ ∀ e ∈ l, -1 ≤ e.1 ∧ e.1 ≤ 1000000 ∧ 1 ≤ e.2 ∧ e.2 ≤ 65536
theorem Right15.small {l : List (Int × Int)} (h : Right15 l) : smallP l := ⟨by have := h.1; omega, fun e he => by have := (okK_all h.2.1).1 e he; omega⟩
theorem small_sum {l : List (Int × Int)} (h : ∀ e ∈ l, 1 ≤ e.2 ∧ e.2 ≤ 65536) (k : Nat) : 0 ≤ sumZ (l.take k) ∧ sumZ (l.take k) ≤ 65536 * k ∧ 0 ≤ heldZ (l.take k) ∧ heldZ (l.take k) ≤ 65536 * k := by
  induction k with
  | zero => simp [sumZ, heldZ]
  | succ k ih =>
    have e3 : (65536 : Int) * ((k + 1 : Nat) : Int) = 65536 * (k : Int) + 65536 := by push_cast; omega
    by_cases hk : k < l.length
    · have he := List.getElem?_eq_getElem hk
      have hm := h _ (List.mem_of_getElem? he)
      rw [sumZ_take he, heldZ_take he, e3]
      split <;> omega
    · rw [List.take_of_length_le (by omega)] at ih ⊢
      omega

set_option maxHeartbeats 1000000 in
theorem eblocks_any (l : List (Int × Int)) (L : Nat) (s : Int) (ao : Option Addr) (cap : Nat) (w : World) (h : Rd2 w ao l) (hL : L = l.length) (hs : smallP l) (hS : s = sumZ l) :
    Calls Tryz.prog 94 #[.slice ao L cap] w fun e w' => e = .returned (.int .i64 s) ∧ Gr [] w w' := by
  subst hS
  have HR := Lib.hid h
  have HL := Lib.hid hL
  have HG := Lib.hid (Gr.refl [] w)
  have HS := Lib.hid hs
  have hL70 : L ≤ 70 := by have := hs.1; omega
  clear h hL hs
  go_enter Tryz.func94, Tryz.ntmps94
  go_wp2_with fail
  go_loopw [3, 8] (fun s i wr => ∃ k : Nat, k ≤ L ∧ i = .int .i64 k ∧ s = .int .i64 (sumZ (l.take k)) ∧ Gr [] w wr) (fun _ i _ => L - (intOf i).toNat)
  case atStart => exact ⟨0, by omega, rfl, rfl, HG.out⟩
  case round =>
    clear HG
    obtain ⟨k, hk, rfl, rfl, G⟩ := hrel
    have hsb := small_sum (fun e he => ⟨(HS.out.2 e he).2.2.1, (HS.out.2 e he).2.2.2⟩) k
    by_cases hkL : k < L
    · have hkL2 : (k : Int) < (L : Int) := by omega
      obtain ⟨⟨e1, e2⟩, he⟩ : ∃ e, l[k]? = some e := ⟨_, List.getElem?_eq_getElem (by have := HL.out; omega)⟩
      obtain ⟨b, o, hao, hb, x0, x1⟩ := HR.out k _ he
      have y0 : wr.cell? ⟨b, o + k * 2, none⟩ = some (.int .i64 e1) := (G.cell0 hb).trans x0
      have y1 : wr.cell? ⟨b, o + k * 2 + 1, none⟩ = some (.int .i64 e2) := (G.cell0 hb).trans x1
      have hm := HS.out.2 _ (List.mem_of_getElem? he)
      have HST := Lib.hid (sumZ_take he)
      have HGA := Lib.hid (G.alloc (Obj.cells #[.int .i64 e1, .int .i64 e2] 158))
      have z1 := (Holds.new wr #[.int .i64 e1, .int .i64 e2] 158).cell 1
      obtain ⟨s1, hs1⟩ : ∃ s1, s1 = sumZ (l.take k) := ⟨_, rfl⟩
      rw [← hs1] at hsb HST ⊢
      have hw : IntKind.i64.wrap (s1 + e2) = s1 + e2 := IntWalk.i64_in _ (by simp only at hm; omega)
      subst hao
      clear x0 x1 G he hs1 hsb hm
      go_wp2_with fail
      go_roundw
      case rel => exact ⟨k + 1, by omega, by go_num, by rw [HST.out], HGA.out⟩
      case measure => simp [intOf]; omega
    · obtain rfl : k = L := by omega
      have HGL := Lib.hid G
      have ht : l.take k = l := by rw [HL.out]; exact List.take_length
      rw [ht] at hsb ⊢
      clear hsb ht G
      go_wp2_with fail
      go_ret
      exact ⟨rfl, HGL.out⟩
end Go.Proofs.YtgleopahldpajaaGreat

/-
  Layer 16: which inodes may be, without the program; Need of any number; a string that holds no zero.
-/
namespace Go.Proofs.YtgleopahldpajaaGreat
open Go.RowKit Go.Shelf

def InG.cont_ren : Go.Shelf.Ren := ⟨fun | 144 => 96 | 143 => 148 | 219 => 178 | 217 => 207 | 225 => 208 | 224 => 209 | 267 => 210 | 266 => 222 | 314 => 223 | n => n, fun | 9 => 9 | 4 => 4 | 3 => 3 | 5 => 5 | 46 => 240 | 146 => 300 | 51 => 260 | n => n, fun | 1 => 0 | n => n⟩
theorem InG.cont : Go.Proofs.Lays.n144 Tryz.prog InG.cont_ren where
  mixed := by kernel_rfl
  f143 := Tryz.func148.trans (congrArg some (by kernel_rfl))
  f144 := Tryz.func96.trans (congrArg some (by kernel_rfl))
  f217 := Tryz.func207.trans (congrArg some (by kernel_rfl))
  f219 := Tryz.func178.trans (congrArg some (by kernel_rfl))
  f224 := Tryz.func209.trans (congrArg some (by kernel_rfl))
  f225 := Tryz.func208.trans (congrArg some (by kernel_rfl))
  f266 := Tryz.func222.trans (congrArg some (by kernel_rfl))
  f267 := Tryz.func210.trans (congrArg some (by kernel_rfl))
  f314 := Tryz.func223.trans (congrArg some (by kernel_rfl))
  t3 := Tryz.underlying3
  a3 := Tryz.isAgg3
  z3 := Tryz.sizeOf3
  v3 := Tryz.zeroValue3
  t4 := Tryz.underlying4
  a4 := Tryz.isAgg4
  z4 := Tryz.sizeOf4
  v4 := Tryz.zeroValue4
  t5 := Tryz.underlying5
  a5 := Tryz.isAgg5
  z5 := Tryz.sizeOf5
  v5 := Tryz.zeroValue5
  t9 := Tryz.underlying9
  a9 := Tryz.isAgg9
  z9 := Tryz.sizeOf9
  v9 := Tryz.zeroValue9
  t46 := Tryz.underlying240
  a46 := Tryz.isAgg240
  z46 := Tryz.sizeOf240
  v46 := Tryz.zeroValue240
  t51 := Tryz.underlying260
  a51 := Tryz.isAgg260
  z51 := Tryz.sizeOf260
  v51 := Tryz.zeroValue260
  t146 := Tryz.underlying300
  a146 := Tryz.isAgg300
  z146 := Tryz.sizeOf300
  v146 := Tryz.zeroValue300
  g1 := by kernel_rfl
theorem InG.fC : InG.cont_ren.f 144 = 96 := by kernel_rfl
theorem contains0 (t : ByteArray) (w : World) : Calls Tryz.prog 96 #[.string t, .string ⟨#[0]⟩] w fun e w' => e = .returned (.bool (t.data.toList.contains 0)) ∧ w' = w := by
  have q := Any.strings_Contains_one InG.cont t 0 w
  rw [InG.fC, ← Lib.contains_iff_indexByte] at q
  exact q
def needZ (s : Int) : Int := if s < 1 then 0 else (s - 1) / 64 + 1
def zfree (t : ByteArray) : Prop := t.data.toList.contains 0 = false
/-- May it be? -/
def Right16 (k : Nat) (l s : Int) (b : List (Int × Int)) (t : ByteArray) : Prop :=
  0 ≤ l ∧ l ≤ 1000 ∧
  ((k = 1 ∧ 0 ≤ s ∧ s ≤ 4194304 ∧ t.size = 0 ∧ Right15 b ∧ sumZ b = needZ s) ∨
   (k = 2 ∧ s = 0 ∧ b.length = 0 ∧ t.size = 0) ∨
   (k = 3 ∧ t.size ≠ 0 ∧ t.size ≤ 256 ∧ zfree t ∧ s = t.size ∧ b.length = 0))
theorem need_any (s : Int) (w : World) (h : s ≤ 9223372036854775807) :
    Calls Tryz.prog 95 #[.int .i64 s] w fun e w' => e = .returned (.int .i64 (needZ s)) ∧ Gr [] w w' := by
  have HG := Lib.hid (Gr.refl [] w)
  unfold needZ
  by_cases h0 : s < 1
  · rw [if_pos h0]
    go_enter Tryz.func95, Tryz.ntmps95
    go_wp2_with fail
    go_ret
    exact ⟨rfl, HG.out⟩
  · rw [if_neg h0]
    have h1 : IntKind.i64.wrap (s - 1) = s - 1 := IntWalk.i64_in _ (by omega)
    have h2 : IntKind.i64.wrap ((s - 1) / 64 + 1) = (s - 1) / 64 + 1 := IntWalk.i64_in _ (by omega)
    have h3 : (1 : Int) ≤ s := by omega
    have h4 : (0 : Int) ≤ s - 1 := by omega
    go_enter Tryz.func95, Tryz.ntmps95
    go_wp2_with fail
    go_ret
    exact ⟨rfl, HG.out⟩
end Go.Proofs.YtgleopahldpajaaGreat
