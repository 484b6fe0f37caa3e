/-
  PkAr: PmRd, PmRe.
-/
import Derived.Test.YtjbhallhmnahbaaGreatPkAq
import Derived.Test.YtjbhallhmnahbaaGreatPkAf

set_option linter.unusedVariables false

/-
  The reference of layer 3: Fence, Boot.
-/
namespace Go.Proofs.YtjbhallhmnahbaaGreat
open Go.RowKit

def chB (S : Nat → Bool) (i : Nat) : Nat → Value := fun k => .bool (if k < i then S k else false)
theorem chB_zero (S : Nat → Bool) (n : Nat) : rowOf (fun _ => Value.bool false) n = rowOf (chB S 0) n := rowOf_congr fun i _ => by unfold chB; rw [if_neg (by omega)]
theorem chB_all (S : Nat → Bool) (n : Nat) : rowOf (chB S n) n = rowOf (fun i => .bool (S i)) n := rowOf_congr fun i hi => by unfold chB; rw [if_pos hi]
theorem Holds.chB_next {W : World} {b : Nat} {S : Nat → Bool} {i n : Nat} {t : TypeId} (h : Holds W b (rowOf (chB S i) n) t) : Holds (W.setCell ⟨b, i, none⟩ (.bool (S i))) b (rowOf (chB S (i + 1)) n) t := by
  have q := h.set i (.bool (S i))
  rw [rowOf_set, rowOf_congr (g' := chB S (i + 1)) (fun k _ => by
    unfold chB
    by_cases e : k = i
    · subst e; rw [if_pos rfl, if_pos (by omega)]
    · rw [if_neg e]
      by_cases c : k < i
      · rw [if_pos c, if_pos (by omega)]
      · rw [if_neg c, if_neg (by omega)])] at q
  exact q
theorem Holds.chB_skip {W : World} {b : Nat} {S : Nat → Bool} {i n : Nat} {t : TypeId} (h : Holds W b (rowOf (chB S i) n) t) (hs : S i = false) : Holds W b (rowOf (chB S (i + 1)) n) t := by
  rw [rowOf_congr (g' := chB S i) (fun k _ => by
    unfold chB
    by_cases e : k = i
    · subst e; rw [if_pos (by omega), if_neg (by omega), hs]
    · by_cases c : k < i
      · rw [if_pos c, if_pos (by omega)]
      · rw [if_neg c, if_neg (by omega)])]
  exact h
def fenS (R : RefC) : Nat → Bool := fun i => (R.ws i).t && (R.ws i).f
def fenceR (R : RefC) : RefC := if begE R true = 0 then lastR (litR R) (fenS R) else begR R true

set_option maxRecDepth 20000 in
set_option maxHeartbeats 2000000 in
theorem rfence_any (r : RefA) (R : RefC) (w : World) (h : RefRow w r R) (hc : R.cnt < 4611686018427387904) (hf : 0 ≤ R.fuse ∧ R.fuse ≤ 9223372036854775807) (hw : ∀ l, l < R.n → 0 ≤ R.wear l ∧ R.wear l < 4611686018427387904) :
    Calls Tryz.prog 152 #[.pointer (some ⟨r.rd, 0, none⟩)] w fun e w' => e = .returned (.int .i64 (begE R true)) ∧ RefRow w' r (fenceR R) ∧ Gr r.all w w' := by
  have hn := h.hi
  have HB := Lib.hid (rbegin_any r R 0 1 w h hc hf)
  rw [show decide ((0 : Int) ≤ 0 ∧ (0 : Int) < 1) = true from rfl] at HB
  have HW := Lib.hid hw
  obtain ⟨n, hn2⟩ : ∃ n, n = R.n := ⟨_, rfl⟩
  rw [← hn2] at hn
  have HN2 := Lib.hid hn2
  clear h hn2 hc hf hw
  have m3 := fun W => make_run (.bool false) 1 (8 * n) (8 * (n : Int)) (by omega) Tryz.underlying45 infoB rfl (by omega) (by omega) W
  obtain ⟨R3, hr3⟩ : ∃ Z, rowOf (fun _ => Value.bool false) (8 * n) = Z := ⟨_, rfl⟩
  rw [hr3] at m3
  have HR3 := Lib.hid hr3
  clear hr3
  go_enter Tryz.func152, Tryz.ntmps152
  go_wp2_with fail
  refine HB.out.mono ?_
  rintro e w1 ⟨rfl, R1, g1⟩
  by_cases h0 : begE R true = 0
  · have HZ0 := Lib.hid h0
    rw [h0]
    rw [(begE_zero h0).2] at R1
    have k0 := R1.c0
    rw [show (litR R).n = n from HN2.out.symm] at k0
    have X := Holds.new w1 R3 4
    have hlt := R1.lt
    have G2 := (Gr.refl [] w1).alloc (Obj.cells R3 4)
    have HD := Lib.hid (And.intro (R1.gr0 G2) (g1.next0 G2))
    have HX := Lib.hid (show Holds (w1.alloc (Obj.cells R3 4)) w1.heap.size (rowOf (chB (fenS R) 0) (8 * n)) 4 by rw [← chB_zero, HR3.out]; exact X)
    have HBC := Lib.hid (show w1.heap.size ∉ r.all from fun e => by have := hlt _ e; omega)
    have HBS := Lib.hid (show w.heap.size ≤ w1.heap.size from g1.size)
    have HBL := Lib.hid (show w1.heap.size < (w1.alloc (Obj.cells R3 4)).heap.size by rw [World.size_alloc]; omega)
    clear R1 X hlt G2 g1 h0
    go_wp2_with fail
    clear k0 m3
    generalize w1.alloc (Obj.cells R3 4) = wa at *
    generalize w1.heap.size = bc at *
    go_loopw [5] (fun z wr => ∃ i : Nat, i ≤ 8 * n ∧ z = .int .i64 (i : Int) ∧ RefRow wr r (litR R) ∧ Holds wr bc (rowOf (chB (fenS R) i) (8 * n)) 4 ∧ Gr r.all w wr) (fun z _ => 8 * n - (intOf z).toNat)
    case atStart => exact ⟨0, by omega, rfl, HD.out.1, HX.out, HD.out.2⟩
    case round =>
      clear HD HX
      obtain ⟨i, hi, rfl, R2, C2, g2⟩ := hrel
      have k0 := R2.c0
      rw [show (litR R).n = n from HN2.out.symm] at k0
      by_cases hlt : i < 8 * n
      · have hib : (i : Int) < 8 * (n : Int) := by omega
        have hi0 : (0 : Int) ≤ (i : Int) := by omega
        have hd : decide ((i : Int) < 8 * (n : Int)) = true := by simp; omega
        have m1 := R2.wt (i := i) (by show i < 8 * R.n; rw [← HN2.out]; exact hlt)
        have m3 := R2.wf (i := i) (by show i < 8 * R.n; rw [← HN2.out]; exact hlt)
        rw [show (litR R).ws i = R.ws i from rfl] at m1 m3
        have kc : wr.cell? ⟨bc, i, none⟩ = some (.bool false) := by rw [C2.cell, rowOf_get _ _ _ hlt]; unfold chB; rw [if_neg (by omega)]
        have fc : wr.frozen? ⟨bc, i, none⟩ = false := C2.frozen i
        have gs := grSet wr bc i (.bool (fenS R i))
        have HNX := Lib.hid (And.intro (R2.gr gs (fun b hb e => HBC.out (by simp at e; subst e; exact hb))) (And.intro C2.chB_next (g2.nextN gs (fun x hx => by simp at hx; subst hx; exact .inr HBS.out))))
        clear R2 C2 g2 gs
        unfold fenS at HNX
        cases ht : (R.ws i).t with
        | true =>
          rw [ht] at m1 HNX
          rw [Bool.true_and] at HNX
          clear ht
          generalize (R.ws i).f = fi at *
          go_wp2_with fail
          go_roundw
          case rel => exact ⟨i + 1, by omega, by go_num, HNX.out.1, HNX.out.2.1, HNX.out.2.2⟩
          case measure => simp [intOf]; omega
        | false =>
          rw [ht] at m1 HNX
          rw [Bool.false_and] at HNX
          clear ht m3
          go_wp2_with fail
          go_roundw
          case rel => exact ⟨i + 1, by omega, by go_num, HNX.out.1, HNX.out.2.1, HNX.out.2.2⟩
          case measure => simp [intOf]; omega
      · obtain rfl : i = 8 * n := by omega
        rw [chB_all] at C2
        have HLa := Lib.hid (rlast_any r (litR R) (fenS R) bc n wr R2 HN2.out.symm C2 HBC.out (fun l hl => HW.out l (by rw [← HN2.out]; exact hl)))
        have HG2 := Lib.hid g2
        have hd : decide (((8 * n : Nat) : Int) < 8 * (n : Int)) = false := by simp
        clear R2 C2 g2
        go_wp2_with fail
        refine HLa.out.mono ?_
        rintro e w3 ⟨rfl, R3', g3⟩
        have HD := Lib.hid (And.intro R3' (HG2.out.trans g3))
        clear R3' g3
        go_wp2_with fail
        go_ret
        refine ⟨by rw [HZ0.out]; rfl, ?_, HD.out.2⟩
        unfold fenceR
        rw [if_pos HZ0.out]
        exact HD.out.1
  · have HZ0 := Lib.hid h0
    have e1 : (begE R true == 0) = false := by simpa using h0
    have HD := Lib.hid (And.intro R1 g1)
    clear R1 g1 h0 m3
    go_wp2_with fail
    go_ret
    refine ⟨rfl, ?_, HD.out.2⟩
    unfold fenceR
    rw [if_neg HZ0.out]
    exact HD.out.1

/-! ### Boot -/
theorem bootS_at {L : List Nat} {kp : Nat → Bool} {k i : Nat} (hn : L.Nodup) (h : L[k]? = some i) : bootS L kp i = kp k := by
  obtain ⟨q1, q2⟩ := List.getElem?_eq_some_iff.1 h
  unfold bootS
  rw [Bool.eq_iff_iff, List.any_eq_true]
  constructor
  · rintro ⟨j, h1, h2⟩
    rw [List.mem_range] at h1
    rw [Bool.and_eq_true, decide_eq_true_eq] at h2
    obtain ⟨q3, q4⟩ := List.getElem?_eq_some_iff.1 h2.2
    have : j = k := (List.getElem_inj hn (h₀ := q3) (h₁ := q1)).1 (q4.trans q2.symm)
    subst this
    exact h2.1
  · intro hk
    exact ⟨k, List.mem_range.2 q1, by rw [Bool.and_eq_true, decide_eq_true_eq]; exact ⟨hk, h⟩⟩
theorem bootS_no {L : List Nat} {kp : Nat → Bool} {i : Nat} (h : i ∉ L) : bootS L kp i = false := by
  unfold bootS
  rw [List.any_eq_false]
  intro j _ e
  rw [Bool.and_eq_true, decide_eq_true_eq] at e
  exact h (List.mem_of_getElem? e.2)
def Upto (L : List Nat) (k i : Nat) : Prop := k ≤ L.length ∧ (∀ j x, j < k → L[j]? = some x → x < i) ∧ ∀ j x, k ≤ j → L[j]? = some x → i ≤ x
theorem Upto.skip {L : List Nat} {k i : Nat} (h : Upto L k i) (hi : i ∉ L) : Upto L k (i + 1) :=
  ⟨h.1, fun j x h1 h2 => by have := h.2.1 j x h1 h2; omega, fun j x h1 h2 => by
    have := h.2.2 j x h1 h2
    have hne : x ≠ i := fun e => hi (by rw [← e]; exact List.mem_of_getElem? h2)
    omega⟩
theorem sorted_lt {L : List Nat} (hs : L.Pairwise (· < ·)) {j k x y : Nat} (hjk : j < k) (hj : L[j]? = some x) (hk : L[k]? = some y) : x < y := by
  obtain ⟨q1, q2⟩ := List.getElem?_eq_some_iff.1 hj
  obtain ⟨q3, q4⟩ := List.getElem?_eq_some_iff.1 hk
  have := List.pairwise_iff_getElem.1 hs j k q1 q3 hjk
  rw [q2, q4] at this
  exact this
theorem Upto.hit {L : List Nat} {k i : Nat} (h : Upto L k i) (hs : L.Pairwise (· < ·)) (hi : i ∈ L) : L[k]? = some i := by
  obtain ⟨j, hj⟩ := List.getElem?_of_mem hi
  by_cases c : j < k
  · have := h.2.1 j i c hj; omega
  · by_cases d : j = k
    · subst d; exact hj
    · have hkl : k < L.length := by have := (List.getElem?_eq_some_iff.1 hj).1; omega
      have hk : L[k]? = some L[k] := List.getElem?_eq_getElem hkl
      have h1 := sorted_lt hs (show k < j by omega) hk hj
      have h2 := h.2.2 k _ (Nat.le_refl _) hk
      omega
theorem Upto.next {L : List Nat} {k i : Nat} (h : Upto L k i) (hs : L.Pairwise (· < ·)) (hi : i ∈ L) : Upto L (k + 1) (i + 1) := by
  have hk := h.hit hs hi
  refine ⟨(List.getElem?_eq_some_iff.1 hk).1, fun j x h1 h2 => ?_, fun j x h1 h2 => ?_⟩
  · by_cases c : j < k
    · have := h.2.1 j x c h2; omega
    · obtain rfl : j = k := by omega
      rw [hk] at h2
      have : i = x := Option.some.inj h2
      omega
  · have := sorted_lt hs (show k < j by omega) hk h2
    omega
def clrW (ws : Nat → WordS) (i : Nat) : Nat → WordS := fun k => if k < i then { m := (ws k).m, t := false, v := (ws k).v, f := (ws k).f } else ws k
theorem clrW_zero (ws : Nat → WordS) : clrW ws 0 = ws := by funext k; unfold clrW; rw [if_neg (by omega)]
theorem clrW_next (ws : Nat → WordS) (i : Nat) : updW (clrW ws i) i { clrW ws i i with t := false } = clrW ws (i + 1) := by
  funext k
  unfold updW clrW
  by_cases e : k = i
  · subst e; rw [if_pos rfl, if_neg (by omega), if_pos (by omega)]
  · rw [if_neg e]
    by_cases c : k < i
    · rw [if_pos c, if_pos (by omega)]
    · rw [if_neg c, if_neg (by omega)]
def bootR (R : RefC) (L : List Nat) (kp : Nat → Bool) : RefC := { lastR R (bootS L kp) with ws := clrW (lastR R (bootS L kp)).ws (8 * R.n), off := false, fuse := 0 }

set_option maxRecDepth 20000 in
set_option maxHeartbeats 2000000 in
theorem rboot_any (r : RefA) (R : RefC) (kv : Value) (kl : Nat) (kp : Nat → Bool) (L : List Nat) (w : World) (h : RefRow w r R) (hk : KeepIs w kv kl kp) (hw : ∀ l, l < R.n → 0 ≤ R.wear l ∧ R.wear l < 4611686018427387904)
    (hs : L.Pairwise (· < ·)) (hm : ∀ x, x < 8 * R.n → (x ∈ L ↔ (R.ws x).t = true)) :
    Calls Tryz.prog 29 #[.pointer (some ⟨r.rd, 0, none⟩), kv] w fun e w' => e = .returned (.tuple #[]) ∧ RefRow w' r (bootR R L kp) ∧ Gr r.all w w' := by
  have hn := h.hi
  have c0 := h.c0
  obtain ⟨ao, kc, rfl, hk1, hk2, hk3⟩ := hk
  have HK := Lib.hid (And.intro hk1 hk2)
  have HW := Lib.hid hw
  have HL := Lib.hid (And.intro hs hm)
  obtain ⟨n, hn2⟩ : ∃ n, n = R.n := ⟨_, rfl⟩
  rw [← hn2] at hn c0
  have HN2 := Lib.hid hn2
  have H := Lib.hid h
  unfold maxLen at hk3
  clear h hn2 hw hs hm hk1 hk2
  have m3 := fun W => make_run (.bool false) 1 (8 * n) (8 * (n : Int)) (by omega) Tryz.underlying45 infoB rfl (by omega) (by omega) W
  obtain ⟨R3, hr3⟩ : ∃ Z, rowOf (fun _ => Value.bool false) (8 * n) = Z := ⟨_, rfl⟩
  rw [hr3] at m3
  have HR3 := Lib.hid hr3
  clear hr3
  go_enter Tryz.func29, Tryz.ntmps29
  go_wp2_with fail
  have X := Holds.new w R3 4
  have G2 := (Gr.refl [] w).alloc (Obj.cells R3 4)
  have HD := Lib.hid (And.intro (H.out.gr0 G2) G2)
  have HX := Lib.hid (show Holds (w.alloc (Obj.cells R3 4)) w.heap.size (rowOf (chB (bootS L kp) 0) (8 * n)) 4 by rw [← chB_zero, HR3.out]; exact X)
  have HBC := Lib.hid (show w.heap.size ∉ r.all from fun e => by have := H.out.lt _ e; omega)
  clear X G2 c0 m3
  generalize w.alloc (Obj.cells R3 4) = wa at *
  obtain ⟨bc, hbc⟩ : ∃ bc, w.heap.size = bc := ⟨_, rfl⟩
  rw [hbc] at HX HBC ⊢
  have HBS := Lib.hid hbc
  clear hbc
  go_loopw [5, 6] (fun u z wr => ∃ (k i : Nat), i ≤ 8 * n ∧ u = .int .i64 (k : Int) ∧ z = .int .i64 (i : Int) ∧ k ≤ i ∧ Upto L k i ∧ Holds wr bc (rowOf (chB (bootS L kp) i) (8 * n)) 4 ∧ Gr [] w wr) (fun _ z _ => 8 * n - (intOf z).toNat)
  case atStart => exact ⟨0, 0, by omega, rfl, rfl, by omega, ⟨by omega, (fun j x h1 => by omega), (fun j x _ _ => by omega)⟩, HX.out, HD.out.2⟩
  case round =>
    clear HD HX
    obtain ⟨k, i, hi, rfl, rfl, hki, U2, C2, g2⟩ := hrel
    have R2 := H.out.gr0 g2
    have k0 := R2.c0
    rw [← HN2.out] at k0
    by_cases hlt : i < 8 * n
    · have hib : (i : Int) < 8 * (n : Int) := by omega
      have hi0 : (0 : Int) ≤ (i : Int) := by omega
      have hd : decide ((i : Int) < 8 * (n : Int)) = true := by simp; omega
      have m1 := R2.wt (i := i) (by rw [← HN2.out]; exact hlt)
      have hml := HL.out.2 i (by rw [← HN2.out]; exact hlt)
      cases ht : (R.ws i).t with
      | false =>
        rw [ht] at m1 hml
        have hnot : i ∉ L := fun e => by have := hml.1 e; cases this
        have HNX := Lib.hid (And.intro (U2.skip hnot) (And.intro (C2.chB_skip (bootS_no hnot)) g2))
        clear R2 U2 C2 g2 hml hnot ht
        go_wp2_with fail
        go_roundw
        case rel => exact ⟨k, i + 1, by omega, rfl, by go_num, by omega, HNX.out.1, HNX.out.2.1, HNX.out.2.2⟩
        case measure => simp [intOf]; omega
      | true =>
        rw [ht] at m1 hml
        have hin : i ∈ L := hml.2 rfl
        have hat := bootS_at (kp := kp) (HL.out.1.imp fun {x y} h => by omega) (U2.hit HL.out.1 hin)
        have kcc : wr.cell? ⟨bc, i, none⟩ = some (.bool false) := by rw [C2.cell, rowOf_get _ _ _ hlt]; unfold chB; rw [if_neg (by omega)]
        have fc : wr.frozen? ⟨bc, i, none⟩ = false := C2.frozen i
        have gs := grSet wr bc i (.bool (bootS L kp i))
        have HNX := Lib.hid (And.intro (U2.next HL.out.1 hin) (And.intro C2.chB_next (g2.nextN gs (fun x hx => by simp at hx; subst hx; exact .inr (by have := HBS.out; omega)))))
        rw [hat] at HNX
        have hwk : 0 ≤ (k : Int) := by omega
        have HG2 := Lib.hid g2
        clear R2 U2 C2 g2 gs hml hin hat ht
        by_cases hkl : k < kl
        · obtain ⟨b, o, rfl, hb, hc2⟩ := HK.out.1 k hkl
          have e2 : wr.cell? ⟨b, o + k, none⟩ = some (.bool (kp k)) := (HG2.out.cell0 hb).trans hc2
          have hd2 : decide ((k : Int) < (kl : Int)) = true := by simpa using hkl
          clear hc2 hb
          generalize kp k = q at *
          go_wp2_with fail
          go_roundw
          case rel => exact ⟨k + 1, i + 1, by omega, by go_num, by go_num, by omega, HNX.out.1, HNX.out.2.1, HNX.out.2.2⟩
          case measure => simp [intOf]; omega
        · have hd2 : decide ((k : Int) < (kl : Int)) = false := by simp; omega
          rw [HK.out.2 k (by omega)] at HNX
          go_wp2_with fail
          go_roundw
          case rel => exact ⟨k + 1, i + 1, by omega, by go_num, by go_num, by omega, HNX.out.1, HNX.out.2.1, HNX.out.2.2⟩
          case measure => simp [intOf]; omega
    · obtain rfl : i = 8 * n := by omega
      rw [chB_all] at C2
      have HLa := Lib.hid (rlast_any r R (bootS L kp) bc n wr R2 HN2.out.symm C2 HBC.out (fun l hl => HW.out l (by rw [← HN2.out]; exact hl)))
      have HG2 := Lib.hid g2
      have hd : decide (((8 * n : Nat) : Int) < 8 * (n : Int)) = false := by simp
      clear R2 C2 g2 U2
      go_wp2_with fail
      refine HLa.out.mono ?_
      rintro e w3 ⟨rfl, R3', g3⟩
      have HD := Lib.hid (And.intro (show RefRow w3 r { lastR R (bootS L kp) with ws := clrW (lastR R (bootS L kp)).ws 0 } by rw [clrW_zero]; exact R3') (HG2.out.of0.trans g3))
      clear R3' g3 k0
      go_wp2_with fail
      go_loopw [7] (fun z wr => ∃ i : Nat, i ≤ 8 * n ∧ z = .int .i64 (i : Int) ∧ RefRow wr r { lastR R (bootS L kp) with ws := clrW (lastR R (bootS L kp)).ws i } ∧ Gr r.all w wr) (fun z _ => 8 * n - (intOf z).toNat)
      case atStart => exact ⟨0, by omega, rfl, HD.out.1, HD.out.2⟩
      case round =>
        clear HD
        obtain ⟨i, hi, rfl, R4, g4⟩ := hrel
        have k0 := R4.c0
        rw [show ({ lastR R (bootS L kp) with ws := clrW (lastR R (bootS L kp)).ws i } : RefC).n = n from HN2.out.symm] at k0
        by_cases hlt : i < 8 * n
        · have hib : (i : Int) < 8 * (n : Int) := by omega
          have hi0 : (0 : Int) ≤ (i : Int) := by omega
          have hd : decide ((i : Int) < 8 * (n : Int)) = true := by simp; omega
          have m1 := R4.wt (i := i) (by show i < 8 * R.n; rw [← HN2.out]; exact hlt)
          have f1 := R4.wz (i * 4 + 1)
          have HNX := Lib.hid (And.intro (show RefRow (wr.setCell ⟨r.rw, i * 4 + 1, none⟩ (.bool false)) r { lastR R (bootS L kp) with ws := clrW (lastR R (bootS L kp)).ws (i + 1) } by
            have q := R4.setT i false
            dsimp only at q
            rw [clrW_next] at q
            exact q) (g4.trans ((grSet wr r.rw (i * 4 + 1) (.bool false)).mono (cs := r.all) (fun b hb => by simp at hb; subst hb; simp [RefA.all]))))
          clear R4 g4
          generalize (({ lastR R (bootS L kp) with ws := clrW (lastR R (bootS L kp)).ws i } : RefC).ws i).t = ti at *
          go_wp2_with fail
          go_roundw
          case rel => exact ⟨i + 1, by omega, by go_num, HNX.out.1, HNX.out.2⟩
          case measure => simp [intOf]; omega
        · obtain rfl : i = 8 * n := by omega
          have hd : decide (((8 * n : Nat) : Int) < 8 * (n : Int)) = false := by simp
          have k4 := R4.c4
          have f4 := R4.fr 4
          have f3 := (R4.setOff false).fr 3
          have k3 := (R4.setOff false).c3
          have HNX := Lib.hid (And.intro ((R4.setOff false).setFuse 0) (g4.trans (((grSet wr r.rd 4 (.bool false)).trans (grSet _ r.rd 3 (.int .i64 0))).mono (cs := r.all) (fun b hb => by simp at hb; subst hb; simp [RefA.all]))))
          clear R4 g4
          go_wp2_with fail
          go_returns
          refine ⟨rfl, ?_, HNX.out.2⟩
          have q := HNX.out.1
          rw [HN2.out] at q
          exact q

end Go.Proofs.YtjbhallhmnahbaaGreat

/-
  The reference of layer 3: Pending, New.
-/
namespace Go.Proofs.YtjbhallhmnahbaaGreat
open Go.RowKit

/-! ### New -/
theorem infoW : (Tryz.prog.info? 148).map (fun i => (i.zero, i.size, i.bytes)) = some (some (.agg #[.int .u64 0, .bool false, .int .u64 0, .bool false]), 4, 32) := by kernel_rfl
def zeroW : Nat → WordS := fun _ => ⟨0, false, 0, false⟩
theorem zeroW_row (n : Nat) : (madeCells (Value.cells (.agg #[.int .u64 0, .bool false, .int .u64 0, .bool false])) (n * 4)).toList.toArray = rowOf (wcell zeroW) (4 * n) := by
  apply Array.ext
  · simp [rowOf, madeCells]; omega
  · intro i h1 h2
    have h4 : i % 4 = 0 ∨ i % 4 = 1 ∨ i % 4 = 2 ∨ i % 4 = 3 := by omega
    simp only [rowOf, madeCells, Value.cells]
    rcases h4 with h | h | h | h <;> simp [wcell, zeroW, h]
theorem makeW_run (n : Nat) (hn : n ≤ 8192) (W : World) :
    (Instr.makeSlice 60 (.int .i64 (8 * (n : Int))) (.int .i64 (8 * (n : Int)))).run Tryz.prog W = .ok (.slice (some ⟨W.heap.size, 0, none⟩) (8 * n) (8 * n)) (W.alloc (.cells (rowOf (wcell zeroW) (4 * (8 * n))) 148)) := by
  obtain ⟨i0, h0, hz0, hz1, hz2⟩ := info_parts infoW
  have hb : i0.bytes * (8 * n) ≤ 32 * 65536 := Nat.mul_le_mul (by omega) (by omega)
  have e : 8 * (n : Int) = ((8 * n : Nat) : Int) := by omega
  rw [e]
  have hbm2 : (i0.bytes : Int) * ((8 * n : Nat) : Int) ≤ 281474976710656 := by
    have q : ((i0.bytes * (8 * n) : Nat) : Int) ≤ 32 * 65536 := by omega
    rw [Int.natCast_mul] at q
    omega
  have r := run_make (P := Tryz.prog) W 60 148 i0 _ Tryz.underlying60 h0 hz0 .i64 .i64 ((8 * n : Nat) : Int) ((8 * n : Nat) : Int) (by omega) (Int.le_refl _) hbm2 (by omega)
  simp only [Int.toNat_natCast, hz1] at r
  rw [r, ← zeroW_row (8 * n)]
def newRC (n : Nat) : RefC := { n := n, ws := zeroW, wear := fun _ => 0, bad := fun _ => false, fuse := 0, off := false, cnt := 0 }
section
variable (w : World) (A B C H : Obj)
theorem four0 : (((((w.alloc A).alloc B).alloc C).alloc H).drew).heap[w.heap.size]? = some A := by
  show ((((w.heap.push A).push B).push C).push H)[w.heap.size]? = some A
  rw [Array.getElem?_push, if_neg (by simp only [Array.size_push]; omega), Array.getElem?_push, if_neg (by simp only [Array.size_push]; omega), Array.getElem?_push, if_neg (by simp only [Array.size_push]; omega), Array.getElem?_push, if_pos rfl]
theorem four1 : (((((w.alloc A).alloc B).alloc C).alloc H).drew).heap[w.heap.size + 1]? = some B := by
  show ((((w.heap.push A).push B).push C).push H)[w.heap.size + 1]? = some B
  rw [Array.getElem?_push, if_neg (by simp only [Array.size_push]; omega), Array.getElem?_push, if_neg (by simp only [Array.size_push]; omega), Array.getElem?_push, if_pos (by simp only [Array.size_push])]
theorem four2 : (((((w.alloc A).alloc B).alloc C).alloc H).drew).heap[w.heap.size + 1 + 1]? = some C := by
  show ((((w.heap.push A).push B).push C).push H)[w.heap.size + 1 + 1]? = some C
  rw [Array.getElem?_push, if_neg (by simp only [Array.size_push]; omega), Array.getElem?_push, if_pos (by simp only [Array.size_push])]
theorem four3 : (((((w.alloc A).alloc B).alloc C).alloc H).drew).heap[w.heap.size + 1 + 1 + 1]? = some H := by
  show ((((w.heap.push A).push B).push C).push H)[w.heap.size + 1 + 1 + 1]? = some H
  rw [Array.getElem?_push, if_pos (by simp only [Array.size_push])]
end
theorem rnew_fin {w W : World} {n b4 bm bw bg : Nat} {R1 R2 R3 : Array Value} (h1 : 1 ≤ n) (h2 : n ≤ 8192) (HR : rowOf (wcell zeroW) (4 * (8 * n)) = R1 ∧ rowOf (fun _ => Value.int .i64 0) n = R2 ∧ rowOf (fun _ => Value.bool false) n = R3)
    (hH : W.heap[b4]? = some (.cells #[.slice (some ⟨bm, 0, none⟩) (8 * n) (8 * n), .slice (some ⟨bw, 0, none⟩) n n, .slice (some ⟨bg, 0, none⟩) n n, .int .i64 0, .bool false, .int .i64 0] 63))
    (q1 : W.heap[bm]? = some (.cells R1 148)) (q3 : W.heap[bw]? = some (.cells R2 3)) (q4 : W.heap[bg]? = some (.cells R3 4))
    (nd : [b4, bm, bw, bg].Nodup) (lo : ∀ b ∈ [b4, bm, bw, bg], w.heap.size ≤ b) (g : Gr [] w W) :
    RefRow W ⟨b4, bm, bw, bg⟩ (newRC n) ∧ (∀ b ∈ (RefA.mk b4 bm bw bg).all, w.heap.size ≤ b) ∧ Gr [] w W := by
  obtain ⟨rfl, rfl, rfl⟩ := HR
  exact ⟨⟨hH, q1, q3, q4, nd, h1, h2⟩, lo, g⟩

set_option maxRecDepth 20000 in
set_option maxHeartbeats 4000000 in
theorem rnew_any (n : Nat) (w : World) (h1 : 1 ≤ n) (h2 : n ≤ 8192) :
    Calls Tryz.prog 11 #[.int .i64 (n : Int)] w fun e w' => ∃ r : RefA, e = .returned (.pointer (some ⟨r.rd, 0, none⟩)) ∧ RefRow w' r (newRC n) ∧ (∀ b ∈ r.all, w.heap.size ≤ b) ∧ Gr [] w w' := by
  have m1 := fun W => makeW_run n h2 W
  have m2 := fun W => make_run (.int .i64 0) 8 n n rfl Tryz.underlying61 infoI64 rfl (by omega) (by omega) W
  have m3 := fun W => make_run (.bool false) 1 n n rfl Tryz.underlying45 infoB rfl (by omega) (by omega) W
  generalize hr1 : rowOf (wcell zeroW) (4 * (8 * n)) = R1 at *
  generalize hr2 : rowOf (fun _ => Value.int .i64 0) n = R2 at *
  generalize hr3 : rowOf (fun _ => Value.bool false) n = R3 at *
  have HR := Lib.hid (And.intro hr1 (And.intro hr2 hr3))
  clear hr1 hr2 hr3
  go_enter Tryz.func11, Tryz.ntmps11
  go_wp2_with fail
  go_region
  all_goals go_wp2
  all_goals go_ret
  all_goals
    refine ⟨⟨_, _, _, _⟩, rfl, rnew_fin (w := w) h1 h2 HR.out (four3 w _ _ _ _) ?_ ?_ ?_ ?_ ?_ ?_⟩
    · first | exact four0 w _ _ _ _ | exact four1 w _ _ _ _ | exact four2 w _ _ _ _
    · first | exact four0 w _ _ _ _ | exact four1 w _ _ _ _ | exact four2 w _ _ _ _
    · first | exact four0 w _ _ _ _ | exact four1 w _ _ _ _ | exact four2 w _ _ _ _
    · simp only [List.nodup_cons, List.mem_cons, List.not_mem_nil, or_false, not_or, List.nodup_nil, and_true, not_false_eq_true]; omega
    · intro b hb; simp only [List.mem_cons, List.not_mem_nil, or_false] at hb; omega
    · exact (((((Gr.refl _ _).alloc _).alloc _).alloc _).alloc _).drew

end Go.Proofs.YtjbhallhmnahbaaGreat
