/-
  MgBb: SpBa, SpBb, SpBc, SpBd, SpBe, SpBf, SpBg.
-/
import Derived.Test.YtdgcninmpcmdcaaGreatMgP
import Derived.Test.YtdgcninmpcmdcaaGreatMgBa
import Derived.Test.YtdgcninmpcmdcaaGreatGapM
import Derived.Test.YtdgcninmpcmdcaaGreatSpZ
import Derived.Test.YtdgcninmpcmdcaaGreatMgH
import Derived.Test.YtdgcninmpcmdcaaGreatRegT
import Derived.Test.YtdgcninmpcmdcaaGreatMgE
import Derived.Test.YtdgcninmpcmdcaaGreatMgQ

/-
  Layer 5, pure: the marks of a table, and where they say that a line is.
-/
namespace Go.Proofs.YtdgcninmpcmdcaaGreat
open Go.RowKit
set_option linter.unusedVariables false

def noteL : List Nat → Nat → BkS → BkS
  | [], _, B => B
  | m :: l, k, B => noteL l (k + 1) ⟨B.used + 1, if m = 65535 then B.wh else updZ B.wh ((m : Int) - 1) (some k)⟩
def whereF (p : PlanZ) (i : Int) : List Nat → Nat → Int → Int
  | [], _, z => z
  | m :: l, k, z => whereF p i l (k + 1) (if (m : Int) = i + 1 then spareP p (k : Int) else z)
def okM (p : PlanZ) (m : Nat) : Prop := m ≠ 0 ∧ m < 281474976710656 ∧ ((m : Int) ≤ p.l ∨ m = 65535)
theorem noteL_used : ∀ (l : List Nat) (k : Nat) (B : BkS), (noteL l k B).used = B.used + l.length
  | [], _, _ => rfl
  | m :: l, k, B => by
    rw [noteL, noteL_used l, List.length_cons]
    show B.used + 1 + l.length = _
    omega
theorem noteL_place {p : PlanZ} {i : Int} (hi : inP p i) (hl : p.l ≤ 1026) : ∀ (l : List Nat) (k : Nat) (B : BkS), placeP p (noteL l k B) i = whereF p i l k (placeP p B i)
  | [], _, _ => rfl
  | m :: l, k, B => by
    rw [noteL, whereF, noteL_place hi hl l]
    congr 1
    obtain ⟨i0, i1⟩ : 0 ≤ i ∧ i < p.l := hi
    by_cases c : (m : Int) = i + 1
    · rw [if_pos c]
      unfold placeP
      rw [if_neg (show ¬ m = 65535 by omega)]
      simp only
      unfold updZ
      rw [if_pos (show i = (m : Int) - 1 by omega)]
    · rw [if_neg c]
      unfold placeP
      by_cases d : m = 65535
      · rw [if_pos d]
      · rw [if_neg d]
        simp only
        unfold updZ
        rw [if_neg (show ¬ i = (m : Int) - 1 by omega)]
theorem guard_low {v : Nat} (hv : v < 18446744073709551616) (h : guardN v = v) : guardN (low48 v) = v := by
  have hp : putL (low48 v) 6 = putL v 6 := putL_eq_of_bits fun i hi => by
    unfold low48
    rw [show (281474976710656 : Nat) = 2 ^ 48 from rfl, Nat.testBit_mod_two_pow, decide_eq_true (by omega), Bool.true_and]
  have hl : guardN (low48 v) < 2 ^ 64 := guardN_lt _ (by unfold low48; omega)
  apply Nat.eq_of_testBit_eq
  intro i
  by_cases c : i < 64
  · rw [guard_bit _ i c, check_congr hp]
    by_cases d : 48 ≤ i
    · rw [if_pos d]
      have := guard_bit v i c
      rw [if_pos d, h] at this
      exact this.symm
    · rw [if_neg d]
      unfold low48
      rw [show (281474976710656 : Nat) = 2 ^ 48 from rfl, Nat.testBit_mod_two_pow, decide_eq_true (by omega), Bool.true_and]
  · rw [Nat.testBit_lt_two_pow (Nat.lt_of_lt_of_le hl (Nat.pow_le_pow_right (n := 2) (by omega) (show 64 ≤ i by omega))), Nat.testBit_lt_two_pow (Nat.lt_of_lt_of_le (show v < 2 ^ 64 from hv) (Nat.pow_le_pow_right (n := 2) (by omega) (show 64 ≤ i by omega)))]
/-- The table's marks: the words that aren't noughts, the first ones. -/
structure Marks (p : PlanZ) (D : DevS) (l : List Nat) : Prop where
  len : (l.length : Int) ≤ p.s
  each : ∀ (j m : Nat), l[j]? = some m → loadV D (8 * p.a.toNat + j) = guardN m ∧ okM p m
  zero : ∀ j : Nat, l.length ≤ j → (j : Int) < p.s → loadV D (8 * p.a.toNat + j) = 0
section
variable {p : PlanZ} {D : DevS} {B : BkS}
theorem note_used {k v : Nat} {B : BkS} : (noteS p k v B).2.used ≤ B.used + 1 := by
  unfold noteS
  split
  · exact Nat.le_succ _
  · split
    · exact Nat.le_succ _
    · exact Nat.le_refl _
theorem openS_used : ∀ (r k : Nat) (B B' : BkS), openS p D r k B = (0, B') → B'.used ≤ B.used + r
  | 0, k, B, B', h => by
    have : B = B' := (Prod.mk.inj h).2
    rw [this]; exact Nat.le_refl _
  | r + 1, k, B, B', h => by
    rw [openS] at h
    by_cases c : (noteS p k (loadV D (8 * p.a.toNat + k)) B).1 ≠ 0
    · rw [if_pos c] at h
      cases h
    · rw [if_neg c] at h
      have h1 := openS_used r (k + 1) _ B' h
      have h2 : (noteS p k (loadV D (8 * p.a.toNat + k)) B).2.used ≤ B.used + 1 := note_used
      omega
theorem openS_marks (hm : ∀ i, loadV D i < 18446744073709551616) : ∀ (r k : Nat) (B B' : BkS), openS p D r k B = (0, B') → B'.used = B.used + r →
    ∃ l : List Nat, l.length = r ∧ B' = noteL l k B ∧ ∀ (j m : Nat), l[j]? = some m → loadV D (8 * p.a.toNat + (k + j)) = guardN m ∧ okM p m
  | 0, k, B, B', h, _ => ⟨[], rfl, (Prod.mk.inj h).2.symm, fun j m e => by simp at e⟩
  | r + 1, k, B, B', h, hu => by
    rw [openS] at h
    have hv := hm (8 * p.a.toNat + k)
    obtain ⟨v, hvv⟩ : ∃ v, v = loadV D (8 * p.a.toNat + k) := ⟨_, rfl⟩
    rw [← hvv] at h hv
    by_cases c : (noteS p k v B).1 ≠ 0
    · rw [if_pos c] at h
      cases h
    · rw [if_neg c] at h
      have h1 := openS_used r (k + 1) _ B' h
      have hv0 : v ≠ 0 := by
        intro e
        have : (noteS p k v B).2 = B := by unfold noteS; rw [if_pos e]
        rw [this] at h1
        omega
      have hnb : ¬ noteBad p k v B := by
        intro d
        apply c
        unfold noteS
        rw [if_neg hv0, if_pos d]
        simp
      have hn : noteS p k v B = (0, noteB k v B) := by unfold noteS; rw [if_neg hv0, if_neg hnb]
      rw [hn] at h
      obtain ⟨l, l1, l2, l3⟩ := openS_marks hm r (k + 1) (noteB k v B) B' h (by show B'.used = B.used + 1 + r; omega)
      refine ⟨low48 v :: l, by rw [List.length_cons, l1], ?_, fun j m e => ?_⟩
      · rw [l2, noteL]
        rfl
      · cases j with
        | zero =>
          rw [List.getElem?_cons_zero] at e
          injection e with e
          subst e
          have hg : guardN v = v := by
            by_cases d : guardN v = v
            · exact d
            · exact absurd (Or.inl d) hnb
          refine ⟨by rw [Nat.add_zero, ← hvv, guard_low hv hg], ?_, low48_lt v, ?_⟩
          · intro d
            exact hnb (.inr (.inr (.inl d)))
          · by_cases d : (low48 v : Int) ≤ p.l
            · exact .inl d
            · right
              by_cases f : low48 v = 65535
              · exact f
              · exact absurd (.inr (.inr (.inr ⟨by omega, f⟩))) hnb
        | succ j =>
          rw [List.getElem?_cons_succ] at e
          rw [show k + (j + 1) = k + 1 + j by omega]
          exact l3 j m e
theorem TI.marks (h : TI p (bare D) B) (hd : Live D) (hok : okZ p = true) (hm : ∀ x, D.med x < 18446744073709551616) : ∃ l : List Nat, Marks p D l ∧ l.length = B.used ∧ ∀ i, inP p i → whereF p i l 0 (lineP p i) = placeP p B i := by
  have hld : ∀ i, loadV D i = loadV (bare D) i := fun i => by unfold loadV; rw [hd.buf]; rfl
  have hld2 : ∀ i, loadV (bare D) i = D.med i := fun i => rfl
  obtain ⟨l, l1, l2, l3⟩ := openS_marks (fun i => by rw [hld2]; exact hm i) _ 0 _ _ h.op (by show B.used = 0 + B.used; omega)
  obtain ⟨h1, h2, h3, h4, h5, h6⟩ := (okZ_iff p).1 hok
  refine ⟨l, ⟨by rw [l1]; exact h.us, fun j m e => ?_, fun j q1 q2 => ?_⟩, l1, fun i hi => ?_⟩
  · have := l3 j m e
    rw [Nat.zero_add] at this
    rw [hld]
    exact this
  · rw [hld, hld2]
    exact h.free j (by omega) q2
  · rw [l2, noteL_place hi (by omega)]
    rfl
end
end Go.Proofs.YtdgcninmpcmdcaaGreat

/-
  Layer 5: the document's Entries and Where.
-/
namespace Go.Proofs.YtdgcninmpcmdcaaGreat
open Go.RowKit
set_option linter.unusedVariables false

/-- A row of marks, wherever it lies. -/
def RowAt (W : World) (po : Option Addr) (l : List Nat) : Prop := ∀ (k m : Nat), l[k]? = some m → ∃ g, po = some ⟨g, 0, none⟩ ∧ g < W.heap.size ∧ W.cell? ⟨g, k, none⟩ = some (.int .i64 (m : Int))
theorem RowAt.gr0 {W W' : World} {po : Option Addr} {l : List Nat} (h : RowAt W po l) (g : Gr [] W W') : RowAt W' po l := fun k m e => by
  obtain ⟨b, h1, h2, h3⟩ := h k m e
  exact ⟨b, h1, Nat.lt_of_lt_of_le h2 g.size, (g.cell0 h2).trans h3⟩
theorem rowAt_of {w0 w1 : World} {v : Value} {L : List Nat} (h : w1.ownsRow w0.heap.size 3 1 v L.length (L.map fun m : Nat => Value.int .i64 (m : Int))) : ∃ po pc, v = .slice po L.length pc ∧ RowAt w1 po L := by
  have hcells := fun g (hg : v.ownBlock = some g) => h.cells hg
  rcases h.2 with ⟨h1, h0⟩ | ⟨g, cap, cur, rfl, hg, hh, _⟩
  · have : L = [] := List.length_eq_zero_iff.1 h0
    subst this
    exact ⟨none, 0, h1, fun k m e => by simp at e⟩
  · refine ⟨some ⟨g, 0, none⟩, cap, rfl, fun k m e => ⟨g, rfl, (Array.getElem?_eq_some_iff.1 hh).1, ?_⟩⟩
    have := hcells g rfl k (.int .i64 (m : Int)) (by rw [List.getElem?_map, e]; rfl)
    rw [addp] at this
    first | exact this | (rw [Nat.zero_add] at this; exact this)
section
variable {w : World} {r : RefA} {D : DevS} {p : PlanZ} {l : List Nat}
set_option maxRecDepth 100000 in
set_option maxHeartbeats 8000000 in
theorem rwhere_any (i : Int) (hok : okZ p = true) (hi : inP p i) (hl : (l.length : Int) ≤ p.s) (hm : ∀ (j m : Nat), l[j]? = some m → okM p m) {po : Option Addr} {pc : Nat} (hr : RowAt w po l) :
    Calls Tryz.prog 95 #[planV p, .slice po l.length pc, .int .i64 i] w fun e w' => e = .returned (.int .i64 (whereF p i l 0 (lineP p i))) ∧ Gr [] w w' := by
  obtain ⟨h1, h2, h3, h4, h5, h6⟩ := (okZ_iff p).1 hok
  obtain ⟨i0, i9⟩ : 0 ≤ i ∧ i < p.l := hi
  have ht : 0 ≤ tabZ p ∧ tabZ p ≤ 8 := by unfold tabZ; omega
  obtain ⟨c0, c1, c2⟩ := rplan_cells p w
  have HG := Lib.hid ((Gr.refl [] w).alloc (Obj.cells #[.int .i64 p.a, .int .i64 p.l, .int .i64 p.s] 74))
  obtain ⟨w1, hw1⟩ : ∃ w1, w1 = w.alloc (Obj.cells #[.int .i64 p.a, .int .i64 p.l, .int .i64 p.s] 74) := ⟨_, rfl⟩
  obtain ⟨pb, hpb⟩ : ∃ pb, pb = w.heap.size := ⟨_, rfl⟩
  rw [← hpb] at c0 c1 c2
  have HT := Lib.hid (fun W => show Calls Tryz.prog 71 #[.agg #[.int .i64 p.a, .int .i64 p.l, .int .i64 p.s]] W _ from rtable_any p hok W)
  obtain ⟨t, htt⟩ : ∃ t, t = tabZ p := ⟨_, rfl⟩
  have HZ := Lib.hid (show lineP p i = p.a + t + i by rw [htt]; rfl)
  have HSP := Lib.hid (show ∀ k : Int, spareP p k = p.a + t + p.l + k from fun k => by rw [htt]; rfl)
  rw [← htt] at HT ht
  have HR := Lib.hid hr
  have HM := Lib.hid hm
  have HB := Lib.hid (And.intro h1 (And.intro h2 (And.intro h4 (And.intro ht (And.intro hl (And.intro h6 (And.intro h3 h5)))))))
  obtain ⟨L, hL⟩ : ∃ L, L = l.length := ⟨_, rfl⟩
  have HL := Lib.hid hL
  have hL64 : L ≤ 64 := by omega
  have HL64 := Lib.hid hL64
  rw [← hL]
  have a1 : IntKind.i64.wrap (p.a + t) = p.a + t := IntWalk.i64_in _ (by omega)
  have a2 : IntKind.i64.wrap (p.a + t + i) = p.a + t + i := IntWalk.i64_in _ (by omega)
  have HII := Lib.hid (And.intro i0 i9)
  clear htt hok hr hm hl h1 h2 h3 h4 h5 h6 ht hL i0 i9
  unfold planV
  go_enter Tryz.func95, Tryz.ntmps95
  go_wp2_with fail
  rw [← hw1] at c0 c1 c2 HG ⊢
  rw [← hpb]
  clear hw1 hpb
  refine (HT.out _).mono ?_
  rintro e w2 ⟨rfl, b2⟩
  have HG2 := Lib.hid (HG.out.nextB b2)
  replace c0 := (Gr.ofBelow (cs := []) b2).cell0 (World.block_lt_of_cell? w1 _ c0) |>.trans c0
  replace c1 := (Gr.ofBelow (cs := []) b2).cell0 (World.block_lt_of_cell? w1 _ c1) |>.trans c1
  clear b2 c2 HG HT
  go_wp2_with fail
  go_loopw [8, 9] (fun z k wr => ∃ (j : Nat) (zz : Int), j ≤ L ∧ k = .int .i64 (j : Int) ∧ z = .int .i64 zz ∧ whereF p i (l.drop j) j zz = whereF p i l 0 (lineP p i) ∧ wr = w2) (fun _ k _ => L - (intOf k).toNat)
  case atStart => exact ⟨0, _, by omega, rfl, rfl, by rw [HZ.out]; rfl, rfl⟩
  case round =>
    obtain ⟨j, zz, hj, rfl, rfl, hz, rfl⟩ := hrel
    by_cases hjL : j < L
    · have ij : (j : Int) < (L : Int) := by omega
      have hjl : j < l.length := by rw [← HL.out]; exact hjL
      obtain ⟨m, hm⟩ : ∃ m, l[j]? = some m := ⟨_, List.getElem?_eq_getElem hjl⟩
      obtain ⟨g, rfl, hg, hcell⟩ := (HR.out.gr0 HG2.out) j m hm
      have hom := HM.out j m hm
      have hdrop : l.drop j = m :: l.drop (j + 1) := by
        rw [List.drop_eq_getElem_cons hjl]
        congr 1
        have := List.getElem?_eq_getElem hjl
        rw [hm] at this
        exact (Option.some.inj this).symm
      rw [hdrop, whereF] at hz
      have HNZ := Lib.hid hz
      obtain ⟨b1, b2, b3, b4, b5, b6, b7, b8⟩ := HB.out
      have a3 : IntKind.i64.wrap (i + 1) = i + 1 := IntWalk.i64_in _ (by have := HII.out; omega)
      have hsp := HSP.out (j : Int)
      by_cases hmi : (m : Int) = i + 1
      · have e1 : ((m : Int) == i + 1) = true := by simpa using hmi
        have a4 : IntKind.i64.wrap (p.a + t + p.l) = p.a + t + p.l := IntWalk.i64_in _ (by omega)
        have a5 : IntKind.i64.wrap (p.a + t + p.l + (j : Int)) = p.a + t + p.l + (j : Int) := IntWalk.i64_in _ (by omega)
        have HNX := Lib.hid (show whereF p i (l.drop (j + 1)) (j + 1) (p.a + t + p.l + (j : Int)) = whereF p i l 0 (lineP p i) by rw [← HNZ.out, if_pos hmi, hsp])
        clear hz hdrop hm hjl hmi hom b1 b2 b3 b4 b5 b6 b7 b8 hsp hg
        go_wp2_with fail
        go_roundw
        case rel => exact ⟨j + 1, _, by omega, by go_num, rfl, HNX.out, trivial⟩
        case measure => simp [intOf]; omega
      · have e1 : ((m : Int) == i + 1) = false := by simpa using hmi
        have HNX := Lib.hid (show whereF p i (l.drop (j + 1)) (j + 1) zz = whereF p i l 0 (lineP p i) by rw [← HNZ.out, if_neg hmi])
        clear hz hdrop hm hjl hmi hom b1 b2 b3 b4 b5 b6 b7 b8 hsp hg
        go_wp2_with fail
        go_roundw
        case rel => exact ⟨j + 1, zz, by omega, by go_num, rfl, HNX.out, trivial⟩
        case measure => simp [intOf]; omega
    · obtain rfl : j = L := by omega
      have ij : ¬ ((j : Int) < (j : Int)) := by omega
      have HE := Lib.hid (show zz = whereF p i l 0 (lineP p i) by
        have e : l.drop j = [] := List.drop_eq_nil_of_le (by rw [← HL.out]; exact Nat.le_refl _)
        rw [e] at hz
        exact hz)
      clear hz
      go_wp2_with fail
      go_ret
      refine ⟨?_, HG2.out⟩
      rw [← HE.out]
      rfl
set_option maxRecDepth 100000 in
set_option maxHeartbeats 8000000 in
theorem rentries_any (h : RefIs w r D) (ho : D.off = false) (hok : okZ p = true) (hfit : p.a + sizeZ p ≤ (D.n : Int)) (hM : Marks p D l) :
    Calls Tryz.prog 94 #[.pointer (some ⟨r.rd, 0, none⟩), planV p] w fun e w' => ∃ po pc, e = .returned (.tuple #[.slice po l.length pc, .int .i64 0]) ∧ RowAt w' po l ∧ Gr [] w w' := by
  obtain ⟨i0, hi, hz0, hz1, hz2⟩ := info_parts infoInt
  have HIN := Lib.hid (And.intro hi (And.intro hz0 (And.intro hz1 hz2)))
  obtain ⟨h1, h2, h3, h4, h5, h6⟩ := (okZ_iff p).1 hok
  have ht : 8 * tabZ p ≥ p.s := by unfold tabZ; omega
  have hsz : sizeZ p = tabZ p + p.l + p.s := by unfold sizeZ; rw [if_pos hok]
  have hnI : D.n ≤ 8192 := h.hi
  obtain ⟨aN, haN⟩ : ∃ aN : Nat, p.a = (aN : Int) := ⟨p.a.toNat, by omega⟩
  obtain ⟨S, hS⟩ : ∃ S : Nat, p.s = (S : Int) := ⟨p.s.toNat, by omega⟩
  obtain ⟨c0, c1, c2⟩ := rplan_cells p w
  have HG := Lib.hid ((Gr.refl [] w).alloc (Obj.cells #[.int .i64 p.a, .int .i64 p.l, .int .i64 p.s] 74))
  obtain ⟨w1, hw1⟩ : ∃ w1, w1 = w.alloc (Obj.cells #[.int .i64 p.a, .int .i64 p.l, .int .i64 p.s] 74) := ⟨_, rfl⟩
  obtain ⟨pb, hpb⟩ : ∃ pb, pb = w.heap.size := ⟨_, rfl⟩
  rw [← hpb, ← hw1] at c0 c1 c2
  rw [hS] at c2
  have HCP := Lib.hid (And.intro c0 (And.intro c1 c2))
  have HLd := Lib.hid (fun (k : Nat) (hk : k < S) W (hW : RefIs W r D) => show Calls Tryz.prog 103 #[.pointer (some ⟨r.rd, 0, none⟩), .int .i64 (8 * p.a + (k : Int))] W fun e w' => e = .returned (.tuple #[.int .u64 (loadV D (8 * p.a.toNat + k) : Int), .int .i64 0]) ∧ W = w' by
    have q := ref_load (8 * p.a + (k : Int)) hW
    rw [show 8 * p.a + (k : Int) = ((8 * p.a.toNat + k : Nat) : Int) by omega, loadP_ok ho (by omega)] at q
    rw [show 8 * p.a + (k : Int) = ((8 * p.a.toNat + k : Nat) : Int) by omega]
    exact q)
  have HW := Lib.hid (show ∀ k : Nat, k < S → IntKind.i64.wrap (8 * p.a) = 8 * p.a ∧ IntKind.i64.wrap (8 * p.a + (k : Int)) = 8 * p.a + (k : Int) from fun k hk => ⟨IntWalk.i64_in _ (by omega), IntWalk.i64_in _ (by omega)⟩)
  have HD := Lib.hid h
  have HM := Lib.hid hM
  have HS := Lib.hid (And.intro hS (And.intro (show S ≤ 64 by omega) (And.intro (show l.length ≤ S by have := hM.len; omega) (And.intro h3 h4))))
  clear h ho hok hfit hM hi hz0 hz1 hz2 h1 h2 h3 h4 h5 h6 ht hsz hnI haN c0 c1 c2
  rw [hS] at hw1
  unfold planV
  rw [hS]
  clear hS
  go_enter Tryz.func94, Tryz.ntmps94
  go_wp2_with fail
  rw [← hw1, ← hpb]
  have HG1 := Lib.hid (show Gr [] w w1 by rw [hw1, ← HS.out.1]; exact HG.out)
  clear hw1 hpb HG
  go_loopw [6, 7, 8] (fun v f k wr => ∃ j : Nat, j ≤ S ∧ k = .int .i64 (j : Int) ∧ f = .bool (decide (l.length < j)) ∧ wr.ownsRow w1.heap.size 3 1 v (l.take j).length ((l.take j).map fun m : Nat => Value.int .i64 (m : Int)) ∧ Gr [] w1 wr) (fun _ _ k _ => S - (intOf k).toNat)
  case atStart => exact ⟨0, by omega, rfl, by rw [decide_eq_false (by omega)], World.ownsRow_nil _ _ _ _, Gr.refl _ _⟩
  case round =>
    obtain ⟨j, hj, rfl, rfl, hown, g⟩ := hrel
    have c0 := (g.cell0 (World.block_lt_of_cell? w1 _ HCP.out.1)).trans HCP.out.1
    have c1 := (g.cell0 (World.block_lt_of_cell? w1 _ HCP.out.2.1)).trans HCP.out.2.1
    have c2 := (g.cell0 (World.block_lt_of_cell? w1 _ HCP.out.2.2)).trans HCP.out.2.2
    have HGR := Lib.hid (And.intro hown g)
    have hS64 : S ≤ 64 := HS.out.2.1
    by_cases hjS : j < S
    · have ij : (j : Int) < (S : Int) := by omega
      obtain ⟨i1, i2⟩ := HW.out j hjS
      have HLj := Lib.hid (HLd.out j hjS wr ((HD.out.gr0 HG1.out).gr0 g))
      by_cases hjl : j < l.length
      · obtain ⟨m, hm⟩ : ∃ m, l[j]? = some m := ⟨_, List.getElem?_eq_getElem hjl⟩
        obtain ⟨hld, hm0, hmb, hmo⟩ := HM.out.each j m hm
        have hgv : guardN m < 18446744073709551616 := guardN_lt m (by omega)
        have hlow : guardN m % 281474976710656 = m := low_guard hmb
        have HGd := Lib.hid (fun W => rguard m W (by omega))
        rw [hld] at HLj
        obtain ⟨v, hv⟩ : ∃ v, v = guardN m := ⟨_, rfl⟩
        rw [← hv] at HLj HGd hgv hlow
        have z0 : ((v : Int) == 0) = false := by
          have : v ≠ 0 := fun e => by rw [e] at hlow; exact hm0 (by omega)
          simp only [beq_eq_false_iff_ne, ne_eq]
          omega
        have hr : (v : Int) % 281474976710656 = (m : Int) := by omega
        have hf : decide (l.length < j) = false := decide_eq_false (by omega)
        have HTK := Lib.hid (show (l.take (j + 1)).map (fun m : Nat => Value.int .i64 (m : Int)) = (l.take j).map (fun m : Nat => Value.int .i64 (m : Int)) ++ [.int .i64 (m : Int)] ∧ (l.take (j + 1)).length = (l.take j).length + 1 by
          have e : l.take (j + 1) = l.take j ++ [m] := by rw [List.take_add_one, hm]; rfl
          rw [e, List.map_append, List.length_append]
          exact ⟨rfl, rfl⟩)
        have htl : (l.take j).length ≤ 64 := by rw [List.length_take]; have := HS.out; omega
        have HMM := Lib.hid (And.intro hm0 (And.intro hmb hmo))
        have HJL := Lib.hid hjl
        rw [hf]
        generalize (l.take j).map (fun m : Nat => Value.int .i64 (m : Int)) = R at *
        generalize (l.take j).length = N at *
        clear hld hm0 hm hv hf hjl hlow hmb
        go_wp2_with fail
        refine HLj.out.mono ?_
        rintro e w' ⟨rfl, rfl⟩
        go_wp2_with fail
        refine (HGd.out _).mono ?_
        rintro e w2 ⟨rfl, b2⟩
        have g2 := Gr.ofBelow (cs := []) b2
        have HGR2 := Lib.hid (And.intro (own_gr0 HGR.out.1 g2) (HGR.out.2.trans g2))
        have c0 := (g2.cell0 (World.block_lt_of_cell? wr _ c0)).trans c0
        have c1 := (g2.cell0 (World.block_lt_of_cell? wr _ c1)).trans c1
        have c2 := (g2.cell0 (World.block_lt_of_cell? wr _ c2)).trans c2
        have hown := HGR2.out.1
        have hsz := HGR2.out.2.size
        clear b2 g2 g HGR
        obtain ⟨hi, hz0, hz1, hz2⟩ := HIN.out
        have a1 : IntKind.i64.wrap (m : Int) = (m : Int) := IntWalk.i64_in _ (by have := HMM.out.2.1; omega)
        by_cases hd : m = 65535
        · have b1 : ((m : Int) != 65535) = false := by rw [hd]; rfl
          clear hd
          go_wp2_with (at_builtin; refine wpList_append_own _ rfl _ _ 52 rfl w1.heap.size 3 i0 (.int .i64 0) 1 8 Tryz.underlying52 hi hz0 hz1 hz2 rfl (by decide) _ _ _ rfl (hown.alloc _) ⟨w2.heap.size, 0, none⟩ 1 1 [.int .i64 (m : Int)] rfl rfl ?c1 ?c2 ?c3 ?c4 ?c5 ?_)
          case c1 =>
            intro a u ha
            match a, ha with
            | 0, ha => simp at ha; subst ha; simp [Addr.add]
          case c2 => intro u hu; simp at hu; subst hu; rfl
          case c3 => unfold maxLen; omega
          case c4 => omega
          case c5 => simp; omega
          intro v' w3 hown3 hgrow _
          have HNX := Lib.hid (show w3.ownsRow w1.heap.size 3 1 v' (l.take (j + 1)).length ((l.take (j + 1)).map fun m : Nat => Value.int .i64 (m : Int)) ∧ Gr [] w1 w3 from by
            refine ⟨?_, ?_⟩
            · rw [HTK.out.1, HTK.out.2]
              exact hown3
            · exact ((HGR2.out.2.alloc _).grown hgrow (fun x hx => .inr (hown.lt x hx).1)))
          clear hown3 hgrow hown
          go_wp2_with fail
          go_roundw
          case rel => exact ⟨j + 1, by omega, by go_num, by rw [decide_eq_false (show ¬ l.length < j + 1 by have := HJL.out; omega)], HNX.out.1, HNX.out.2⟩
          case measure => simp [intOf]; omega
        · have b1 : ((m : Int) != 65535) = true := by simp only [bne_iff_ne, ne_eq]; omega
          have hml : (m : Int) ≤ p.l := by have := HMM.out.2.2; omega
          have b2 : ¬ ((m : Int) < 1) := by have := HMM.out.1; omega
          have b3 : ¬ (p.l < (m : Int)) := by omega
          have a2 : IntKind.u64.wrap p.l = p.l := IntWalk.u64_in _ (by have := HS.out.2.2.2; omega)
          clear hml
          go_wp2_with (at_builtin; refine wpList_append_own _ rfl _ _ 52 rfl w1.heap.size 3 i0 (.int .i64 0) 1 8 Tryz.underlying52 hi hz0 hz1 hz2 rfl (by decide) _ _ _ rfl (hown.alloc _) ⟨w2.heap.size, 0, none⟩ 1 1 [.int .i64 (m : Int)] rfl rfl ?c1 ?c2 ?c3 ?c4 ?c5 ?_)
          case c1 =>
            intro a u ha
            match a, ha with
            | 0, ha => simp at ha; subst ha; simp [Addr.add]
          case c2 => intro u hu; simp at hu; subst hu; rfl
          case c3 => unfold maxLen; omega
          case c4 => omega
          case c5 => simp; omega
          intro v' w3 hown3 hgrow _
          have HNX := Lib.hid (show w3.ownsRow w1.heap.size 3 1 v' (l.take (j + 1)).length ((l.take (j + 1)).map fun m : Nat => Value.int .i64 (m : Int)) ∧ Gr [] w1 w3 from by
            refine ⟨?_, ?_⟩
            · rw [HTK.out.1, HTK.out.2]
              exact hown3
            · exact ((HGR2.out.2.alloc _).grown hgrow (fun x hx => .inr (hown.lt x hx).1)))
          clear hown3 hgrow hown
          go_wp2_with fail
          go_roundw
          case rel => exact ⟨j + 1, by omega, by go_num, by rw [decide_eq_false (show ¬ l.length < j + 1 by have := HJL.out; omega)], HNX.out.1, HNX.out.2⟩
          case measure => simp [intOf]; omega
      · have hz := HM.out.zero j (by omega) (by have := HS.out.1; omega)
        rw [hz] at HLj
        have HTK := Lib.hid (show l.take (j + 1) = l.take j by rw [List.take_of_length_le (show l.length ≤ j + 1 by omega), List.take_of_length_le (show l.length ≤ j by omega)])
        have HJL := Lib.hid hjl
        clear hz hjl g hown
        generalize decide (l.length < j) = f at *
        go_wp2_with fail
        refine HLj.out.mono ?_
        rintro e w' ⟨rfl, rfl⟩
        go_wp2_with fail
        go_roundw
        case rel => exact ⟨j + 1, by omega, by go_num, by rw [decide_eq_true (show l.length < j + 1 by have := HJL.out; omega)], by rw [HTK.out]; exact HGR.out.1, HGR.out.2⟩
        case measure => simp [intOf]; omega
    · obtain rfl : j = S := by omega
      have ij : ¬ ((j : Int) < (j : Int)) := by omega
      have HTK := Lib.hid (show l.take j = l from List.take_of_length_le HS.out.2.2.1)
      clear g hown
      generalize decide (l.length < j) = f at *
      go_wp2_with fail
      have ho := HGR.out.1
      rw [HTK.out] at ho
      obtain ⟨po, pc, rfl, hrow⟩ := rowAt_of ho
      exact bodyPost_ret (v := .tuple #[.slice po l.length pc, .int .i64 0]) (by simp [results, Tryz.results94, go_sem]) rfl ⟨po, ⟨pc, rfl⟩, hrow, HG1.out.trans HGR.out.2⟩
end
end Go.Proofs.YtdgcninmpcmdcaaGreat

/-
  Layer 5: the document's retire.
-/
namespace Go.Proofs.YtdgcninmpcmdcaaGreat
open Go.RowKit
set_option linter.unusedVariables false

theorem fin_fu {D : DevS} {c l : Nat} (h : Fu D c) : Fu (finS l D).2 (c + 2) := by
  unfold finS
  split
  · exact (h.flush _ _).fence _
  · exact (h.flush _ _).mono (by omega)
theorem stos_fu (l k : Nat) (f : Nat → Nat) : ∀ (m i : Nat) (D : DevS) (c : Nat), Fu D c → Fu (stos l k f m i D).2 (c + m + 2)
  | 0, i, D, c, h => by unfold stos; exact fin_fu h
  | m + 1, i, D, c, h => by
    unfold stos
    split
    · exact (stos_fu l k f m (i + 1) _ (c + 1) (h.store _ _ _)).mono (by omega)
    · exact (h.store _ _ _).mono (by omega)
theorem put_fu {D : DevS} {c : Nat} (h : Fu D c) (z : Int) (s : ByteArray) : Fu (putE D z s).2 (c + 10) := by
  unfold putE
  split
  · exact h.mono (by omega)
  · split
    · exact (stos_fu _ _ _ _ _ _ _ h).mono (by omega)
    · exact h.mono (by omega)
theorem pw_fu {D : DevS} {c : Nat} (h : Fu D c) (z k : Int) (v : Nat) : Fu (pwE D z k v).2 (c + 3) := by
  unfold pwE
  split
  · exact h.mono (by omega)
  · split
    · exact (stos_fu _ _ _ _ _ _ _ h).mono (by omega)
    · exact h.mono (by omega)
/-- What lasts are words. -/
def MB (D : DevS) : Prop := ∀ x, D.med x < 18446744073709551616
theorem Whole.mb {D E : DevS} {l b m : Nat} {f : Nat → Nat} (h : Whole D E l b m f) (hD : MB D) (hf : ∀ k, f k < 18446744073709551616) : MB E := fun x => by
  rw [h.med]
  split
  · exact hf _
  · exact hD x
section
variable {p : PlanZ} {D : DevS} {B : BkS} {s : ByteArray} {i : Int}
/-- A round of retire's. -/
theorem rep_step (h : TI p (bare D) B) (hd : Live D) (hmb : MB D) (hok : okZ p = true) (hi : inP p i) (hs : s.size = 64) (hu : (B.used : Int) < p.s) :
    ∃ l : Nat, spareP p (B.used : Int) = (l : Int) ∧ l < D.n ∧
      ((∃ D1, putE D (l : Int) s = (6, D1) ∧ ∀ n, ensS p i s (n + 1) D B = (6, D1, B)) ∨
       (∃ D1, putE D (l : Int) s = (0, D1) ∧ D1.n = D.n ∧ MB D1 ∧ ∃ (m : Nat) (e2 : Int) (D2 : DevS), m = markN D1 (l : Int) i s ∧ m < 281474976710656 ∧ pwE D1 (p.a + (B.used : Int) / 8) ((B.used : Int) % 8) (guardN m) = (e2, D2) ∧
         ((e2 = 6 ∧ ∀ n, ensS p i s (n + 1) D B = (6, D2, B)) ∨
          (e2 = 0 ∧ tookB D1 (l : Int) s = true ∧ ∃ B', ∀ n, ensS p i s (n + 1) D B = (0, D2, B')) ∨
          (e2 = 0 ∧ tookB D1 (l : Int) s = false ∧ ∃ B', B'.used = B.used + 1 ∧ TI p (bare D2) B' ∧ Live D2 ∧ MB D2 ∧ D2.n = D.n ∧ ∀ n, ensS p i s (n + 1) D B = ensS p i s n D2 B')))) := by
  obtain ⟨l, t, M, B', hl, hln, ti, us, yes, no, fr, hcase⟩ := rep_last h hd hok hi hs hu
  obtain ⟨h1, h2, h3, h4, h5, h6⟩ := (okZ_iff p).1 hok
  obtain ⟨i0, i9⟩ : 0 ≤ i ∧ i < p.l := hi
  have ht : 8 * tabZ p ≥ p.s := by unfold tabZ; omega
  have hsz : sizeZ p = tabZ p + p.l + p.s := by unfold sizeZ; rw [if_pos hok]
  have hfit : p.a + sizeZ p ≤ (D.n : Int) := h.fits
  obtain ⟨aN, haN⟩ : ∃ aN : Nat, p.a = (aN : Int) := ⟨p.a.toNat, by omega⟩
  have q2 : p.a + (B.used : Int) / 8 = ((aN + B.used / 8 : Nat) : Int) := by omega
  have q3 : (B.used : Int) % 8 = ((B.used % 8 : Nat) : Int) := by omega
  refine ⟨l, hl, hln, ?_⟩
  rcases put_live (l := l) hd hln hs with ⟨E2, e2, s2⟩ | ⟨E, e2, s2⟩
  · right
    refine ⟨E2, e2, s2.n, s2.mb hmb (fun k => wdL_lt _ _), markN E2 (l : Int) i s, ?_⟩
    have hmk : markN E2 (l : Int) i s < 281474976710656 := by
      unfold markN
      split <;> omega
    rcases putword_live (D := E2) (l := aN + B.used / 8) (k := B.used % 8) (v := guardN (markN E2 (l : Int) i s)) s2.live (by rw [s2.n]; omega) (by omega) with ⟨E4, e4, s4⟩ | ⟨E4, e4, s4⟩
    · refine ⟨0, E4, rfl, hmk, by rw [q2, q3]; exact e4, .inr ?_⟩
      have hr : replaceS p i s D B = ⟨tookB E2 (l : Int) s, 0, E4, ⟨B.used + 1, if tookB E2 (l : Int) s then updZ B.wh i (some B.used) else B.wh⟩⟩ := by
        unfold replaceS
        rw [hl, q2, q3, e2]
        simp only
        rw [e4]
        rfl
      rcases hcase with ⟨E, r, c1, c2, c3, c4⟩ | ⟨E, r, c1, c2, c3, c4⟩
      · rw [hr] at r
        injection r with r1 r2 r3 r4
        subst r3
        cases htk : tookB E2 (l : Int) s with
        | true =>
          refine .inl ⟨rfl, rfl, B', fun n => ?_⟩
          rw [ensS, hr, htk]
          simp only [true_or, if_true]
          rw [← r4, htk]
          rfl
        | false =>
          refine .inr ⟨rfl, rfl, B', us, ti.congr hok (bare_calm E4) c3 c4 c2, c1, s4.mb (s2.mb hmb (fun k => wdL_lt _ _)) (fun _ => guardN_lt _ (by omega)), c3, fun n => ?_⟩
          rw [ensS, hr, htk]
          rw [← r4, htk]
          simp
      · rw [hr] at r
        injection r with r1 r2 r3 r4
        omega
    · refine ⟨6, E4, rfl, hmk, by rw [q2, q3]; exact e4, .inl ⟨rfl, fun n => ?_⟩⟩
      have hr : replaceS p i s D B = ⟨false, 6, E4, B⟩ := by
        unfold replaceS
        rw [hl, q2, q3, e2]
        simp only
        rw [e4]
        rfl
      rw [ensS, hr]
      simp
  · left
    refine ⟨E, e2, fun n => ?_⟩
    have hr : replaceS p i s D B = ⟨false, 6, E, B⟩ := by
      unfold replaceS
      rw [hl, e2]
      rfl
    rw [ensS, hr]
    simp
end
section
variable {w : World} {r : RefA} {D : DevS} {p : PlanZ} {B : BkS} {c : Nat}
set_option maxRecDepth 100000 in
set_option maxHeartbeats 8000000 in
theorem rretire_any (i : Int) (s : ByteArray) (h : RefIs w r D) (hd : Live D) (hT : TI p (bare D) B) (hmb : MB D) (hb : Fu D c) (hc : c < 700000) (hok : okZ p = true) (hi : inP p i) (hs : s.size = 64) :
    Calls Tryz.prog 97 #[.pointer (some ⟨r.rd, 0, none⟩), planV p, .int .i64 i, .string s] w fun e w' => e = .returned (.int .i64 (ensS p i s (p.s - (B.used : Int)).toNat D B).1) ∧ RefIs w' r (ensS p i s (p.s - (B.used : Int)).toNat D B).2.1 ∧ Fu (ensS p i s (p.s - (B.used : Int)).toNat D B).2.1 (c + 1000) ∧ Gr r.all w w' := by
  obtain ⟨h1, h2, h3, h4, h5, h6⟩ := (okZ_iff p).1 hok
  obtain ⟨i0, i9⟩ : 0 ≤ i ∧ i < p.l := hi
  have ht : 0 ≤ tabZ p ∧ tabZ p ≤ 8 := by unfold tabZ; omega
  have hfit : p.a + sizeZ p ≤ (D.n : Int) := hT.fits
  obtain ⟨S, hS⟩ : ∃ S : Nat, p.s = (S : Int) := ⟨p.s.toNat, by omega⟩
  have hus : B.used ≤ S := by have := hT.us; omega
  obtain ⟨N, hN⟩ : ∃ N : Nat, N = S - B.used := ⟨_, rfl⟩
  have hN2 : (p.s - (B.used : Int)).toNat = N := by omega
  rw [hN2]
  obtain ⟨X, hX⟩ : ∃ X, X = ensS p i s N D B := ⟨_, rfl⟩
  rw [← hX]
  obtain ⟨c0, c1, c2⟩ := rplan_cells p w
  have HG := Lib.hid ((Gr.refl [] w).alloc (Obj.cells #[.int .i64 p.a, .int .i64 p.l, .int .i64 p.s] 74))
  obtain ⟨w1, hw1⟩ : ∃ w1, w1 = w.alloc (Obj.cells #[.int .i64 p.a, .int .i64 p.l, .int .i64 p.s] 74) := ⟨_, rfl⟩
  obtain ⟨pb, hpb⟩ : ∃ pb, pb = w.heap.size := ⟨_, rfl⟩
  have HNP := Lib.hid (show pb ∉ r.all from fun q => by have := h.lt _ q; omega)
  rw [← hpb, ← hw1] at c0 c1 c2
  rw [← hw1] at HG
  have HT := Lib.hid (fun W => show Calls Tryz.prog 71 #[.agg #[.int .i64 p.a, .int .i64 p.l, .int .i64 p.s]] W _ from rtable_any p hok W)
  have HEn := Lib.hid (fun (W : World) (D' : DevS) (l : List Nat) (q1 : RefIs W r D') (q2 : D'.off = false) (q3 : p.a + sizeZ p ≤ (D'.n : Int)) (q4 : Marks p D' l) => show Calls Tryz.prog 94 #[.pointer (some ⟨r.rd, 0, none⟩), .agg #[.int .i64 p.a, .int .i64 p.l, .int .i64 p.s]] W _ from rentries_any q1 q2 hok q3 q4)
  obtain ⟨t, htt⟩ : ∃ t, t = tabZ p := ⟨_, rfl⟩
  have HSP := Lib.hid (show ∀ k : Int, spareP p k = p.a + t + p.l + k from fun k => by rw [htt]; rfl)
  rw [← htt] at HT ht
  have a1 : IntKind.i64.wrap (p.a + t) = p.a + t := IntWalk.i64_in _ (by omega)
  have a2 : IntKind.i64.wrap (p.a + t + p.l) = p.a + t + p.l := IntWalk.i64_in _ (by omega)
  have a3 : IntKind.i64.wrap (i + 1) = i + 1 := IntWalk.i64_in _ (by omega)
  have a4 : IntKind.u64.wrap (i + 1) = i + 1 := IntWalk.u64_in _ (by omega)
  have HK := Lib.hid (And.intro hok (And.intro (show inP p i from ⟨i0, i9⟩) (And.intro hs (And.intro hfit (And.intro hS (And.intro (show S ≤ 64 by omega) (And.intro hc (And.intro h1 (And.intro h2 (And.intro h4 (And.intro ht h3)))))))))))
  have HX := Lib.hid hX
  have H0 := Lib.hid (And.intro h (And.intro hd (And.intro hT (And.intro hmb (And.intro hb (And.intro hus hN))))))
  have HSS := Lib.hid (show s.size ≤ maxLen by rw [hs]; unfold maxLen; omega)
  have HPS := Lib.hid hS
  have HNN := Lib.hid (show N ≤ 64 by omega)
  clear h hd hT hmb hb hok hs hfit h1 h2 h3 h4 h5 h6 ht htt hus hN hN2 hX i0 i9 hc hS
  unfold planV
  go_enter Tryz.func97, Tryz.ntmps97
  go_wp2_with fail
  rw [← hw1]
  rw [← hpb]
  clear hw1 hpb
  refine (HT.out _).mono ?_
  rintro e w2 ⟨rfl, b2⟩
  have g2 := Gr.ofBelow (cs := []) b2
  replace c0 := (g2.cell0 (World.block_lt_of_cell? w1 _ c0)).trans c0
  replace c1 := (g2.cell0 (World.block_lt_of_cell? w1 _ c1)).trans c1
  replace c2 := (g2.cell0 (World.block_lt_of_cell? w1 _ c2)).trans c2
  have HG2 := Lib.hid (HG.out.trans g2)
  have HCP := Lib.hid (And.intro c0 (And.intro c1 c2))
  clear b2 g2 c0 c1 c2 HG HT
  go_wp2_with fail
  go_loopg [] N (fun n wr => ∃ (D' : DevS) (B' : BkS), n ≤ N ∧ RefIs wr r D' ∧ Live D' ∧ TI p (bare D') B' ∧ MB D' ∧ D'.n = D.n ∧ B'.used + n = S ∧ ensS p i s n D' B' = X ∧ Fu D' (c + 13 * (N - n)) ∧ Gr r.all w2 wr)
  case atStart => exact ⟨D, B, Nat.le_refl _, H0.out.1.gr0 HG2.out, H0.out.2.1, H0.out.2.2.1, H0.out.2.2.2.1, rfl, by have := H0.out.2.2.2.2.2; omega, HX.out.symm, H0.out.2.2.2.2.1.mono (by omega), Gr.refl _ _⟩
  case round =>
    obtain ⟨D', B', hgk, r1, r2, r3, r4, r5, r6, r7, r8, r9⟩ := hrel
    have c0 := (cell_gr r9 (World.block_lt_of_cell? w2 _ HCP.out.1) HNP.out).trans HCP.out.1
    have c1 := (cell_gr r9 (World.block_lt_of_cell? w2 _ HCP.out.2.1) HNP.out).trans HCP.out.2.1
    have c2 := (cell_gr r9 (World.block_lt_of_cell? w2 _ HCP.out.2.2) HNP.out).trans HCP.out.2.2
    obtain ⟨l, hM, hl, _⟩ := r3.marks r2 HK.out.1 r4
    have HE := Lib.hid (HEn.out wr D' l r1 r2.off (by rw [r5]; exact HK.out.2.2.2.1) hM)
    have HR := Lib.hid (And.intro r1 (And.intro r2 (And.intro r3 (And.intro r4 (And.intro r5 (And.intro r6 (And.intro r7 (And.intro r8 r9))))))))
    have hlu : l.length = B'.used := hl
    rw [hlu] at HE
    obtain ⟨u, hu⟩ : ∃ u, u = B'.used := ⟨_, rfl⟩
    rw [← hu] at HE
    have HU := Lib.hid hu
    have hS64 : S ≤ 64 := HK.out.2.2.2.2.2.1
    have huS : u + gk = S := by omega
    clear r1 r2 r3 r4 r5 r6 r7 r8 r9 hM hl hlu hu
    go_wp2_with fail
    refine HE.out.mono ?_
    rintro e w3 ⟨po, pc, rfl, hrow, g3⟩
    have HG3 := Lib.hid g3
    replace c0 := (g3.cell0 (World.block_lt_of_cell? wr _ c0)).trans c0
    replace c1 := (g3.cell0 (World.block_lt_of_cell? wr _ c1)).trans c1
    replace c2 := (g3.cell0 (World.block_lt_of_cell? wr _ c2)).trans c2
    clear hrow g3 HE
    have hu64 : u ≤ 64 := by omega
    obtain ⟨j1, j2, j3, j4, j5⟩ := HK.out.2.2.2.2.2.2.2
    have hps2 : p.s ≤ 64 := by have := HPS.out; omega
    rcases gk with _ | m
    · have ik : p.s ≤ (u : Int) := by have := HPS.out; omega
      have HX2 := Lib.hid (show ensS p i s 0 D' B' = X from HR.out.2.2.2.2.2.2.1)
      clear huS hS64 j1 j2 j3 j4 j5
      go_wp2_with fail
      go_ret
      rw [← HX2.out]
      exact ⟨rfl, HR.out.1.gr0 HG3.out, HR.out.2.2.2.2.2.2.2.1.mono (by have := HNN.out; omega), ((HG2.out.of0).trans HR.out.2.2.2.2.2.2.2.2).next0 HG3.out⟩
    · have ik : ¬ (p.s ≤ (u : Int)) := by have := HPS.out; omega
      obtain ⟨l, hl, hln, hcase⟩ := rep_step (i := i) HR.out.2.2.1 HR.out.2.1 HR.out.2.2.2.1 HK.out.1 HK.out.2.1 HK.out.2.2.1 (by rw [← HU.out]; omega)
      rw [← HU.out, HSP.out] at hl
      have HP := Lib.hid (fun W (q : RefIs W r D') => rput4_any r D' (l : Int) s (c + 13 * (N - (m + 1))) W q HR.out.2.2.2.2.2.2.2.1 (by have := HK.out.2.2.2.2.2.2.1; have := HNN.out; omega) HSS.out)
      have a5 : IntKind.i64.wrap (p.a + t + p.l + (u : Int)) = (l : Int) := by rw [← hl]; exact IntWalk.i64_in _ (by omega)
      have HL := Lib.hid (And.intro hl hln)
      have HX2 := Lib.hid HR.out.2.2.2.2.2.2.1
      have HFU := Lib.hid (put_fu HR.out.2.2.2.2.2.2.2.1 (l : Int) s)
      clear huS hl hln
      rcases hcase with ⟨D1, p1, p2⟩ | ⟨D1, p1, p2, p3, mk, e2, D2, p4, p5, p6, p7⟩
      · rw [p1] at HP HFU
        have HX3 := Lib.hid ((p2 m).symm.trans HX2.out)
        clear p1 p2 j1 j2 j3 j4 j5
        go_wp2_with fail
        refine (HP.out _ (HR.out.1.gr0 HG3.out)).mono ?_
        rintro e w4 ⟨rfl, d4, g4⟩
        have H4 := Lib.hid (And.intro d4 ((((HG2.out.of0).trans HR.out.2.2.2.2.2.2.2.2).next0 HG3.out).trans g4))
        clear d4 g4
        go_wp2_with fail
        go_ret
        rw [← HX3.out]
        exact ⟨rfl, H4.out.1, HFU.out.mono (by have := HNN.out; omega), H4.out.2⟩
      · rw [p1] at HP HFU
        have HMd := Lib.hid (fun W (q : RefIs W r D1) => rmedia4_any r D1 l W q (by rw [p2]; exact HL.out.2) p3)
        have hq := took_eq p3 (l := l) (by rw [p2]; exact HL.out.2) HK.out.2.2.1
        have hmk : mk = if tookB D1 (l : Int) s then i.toNat + 1 else 65535 := p4
        have HGd := Lib.hid (fun W => rguard mk W (by omega))
        have HPW := Lib.hid (fun W (q : RefIs W r D1) => rputword_any r D1 (p.a + (u : Int) / 8) ((u : Int) % 8) (guardN mk) _ W q HFU.out (by have := HK.out.2.2.2.2.2.2.1; have := HNN.out; omega))
        have HFW := Lib.hid (pw_fu HFU.out (p.a + (u : Int) / 8) ((u : Int) % 8) (guardN mk))
        rw [← HU.out] at p6
        rw [p6] at HPW HFW
        have HSt := Lib.hid p7
        have HDN := Lib.hid (And.intro p2 (And.intro p3 HR.out.2.2.2.2.1))
        obtain ⟨g, hg⟩ : ∃ g, g = guardN mk := ⟨_, rfl⟩
        rw [← hg] at HGd HPW
        obtain ⟨G, hG⟩ : ∃ G, G = medS D1 l := ⟨_, rfl⟩
        rw [← hG] at hq
        have HMd2 := Lib.hid (fun W (q : RefIs W r D1) => show Calls Tryz.prog 33 #[.pointer (some ⟨r.rd, 0, none⟩), .int .i64 (l : Int)] W fun e w' => e = .returned (.string G) ∧ Gr [] W w' by rw [hG]; exact HMd.out W q)
        clear hG hg p1 p2 p3 p4 p6 p7 HMd
        have a6 : IntKind.i64.wrap (p.a + (u : Int) / 8) = p.a + (u : Int) / 8 := IntWalk.i64_in _ (by omega)
        go_wp2_with fail
        refine (HP.out _ (HR.out.1.gr0 HG3.out)).mono ?_
        rintro e w4 ⟨rfl, d4, g4⟩
        replace c0 := (cell_gr g4 (World.block_lt_of_cell? w3 _ c0) HNP.out).trans c0
        have H4 := Lib.hid (And.intro d4 ((((HG2.out.of0).trans HR.out.2.2.2.2.2.2.2.2).next0 HG3.out).trans g4))
        have HG4 := Lib.hid ((HR.out.2.2.2.2.2.2.2.2.next0 HG3.out).trans g4)
        clear d4 g4 c1 c2
        go_wp2_with fail
        refine (HMd2.out _ H4.out.1).mono ?_
        rintro e w5 ⟨rfl, g5⟩
        replace c0 := (g5.cell0 (World.block_lt_of_cell? w4 _ c0)).trans c0
        have H5 := Lib.hid (And.intro (H4.out.1.gr0 g5) (And.intro (H4.out.2.next0 g5) (HG4.out.next0 g5)))
        clear g5 H4 HG4
        have hq2 := hq.symm
        clear hq
        cases htk : tookB D1 (l : Int) s with
        | true =>
          rw [htk] at hq2 hmk
          rw [if_pos rfl] at hmk
          have hmI : (mk : Int) = i + 1 := by rw [hmk]; have := HK.out.2.1; unfold inP at this; omega
          have HTK := Lib.hid htk
          rw [hmI] at HGd
          clear htk hmk hmI
          go_wp2_with fail
          refine (HGd.out _).mono ?_
          rintro e w6 ⟨rfl, b6⟩
          have g6 := Gr.ofBelow (cs := []) b6
          replace c0 := (g6.cell0 (World.block_lt_of_cell? w5 _ c0)).trans c0
          have H6 := Lib.hid (And.intro (H5.out.1.gr0 g6) (And.intro (H5.out.2.1.next0 g6) (H5.out.2.2.next0 g6)))
          clear b6 g6
          go_wp2_with fail
          refine (HPW.out _ H6.out.1).mono ?_
          rintro e w7 ⟨rfl, d7, g7⟩
          have H7 := Lib.hid (And.intro d7 (And.intro (H6.out.2.1.trans g7) (H6.out.2.2.trans g7)))
          clear d7 g7 c0
          rcases HSt.out with ⟨rfl, z1⟩ | ⟨rfl, _, Bz, z1⟩ | ⟨rfl, z1, _⟩
          · have HX3 := Lib.hid ((z1 m).symm.trans HX2.out)
            clear z1
            go_wp2_with fail
            go_ret
            rw [← HX3.out]
            exact ⟨rfl, H7.out.1, HFW.out.mono (by have := HNN.out; omega), H7.out.2.1⟩
          · have HX3 := Lib.hid ((z1 m).symm.trans HX2.out)
            clear z1
            go_wp2_with fail
            go_ret
            rw [← HX3.out]
            exact ⟨rfl, H7.out.1, HFW.out.mono (by have := HNN.out; omega), H7.out.2.1⟩
          · exact absurd (HTK.out.symm.trans z1) (by simp)
        | false =>
          rw [htk] at hq2 hmk
          have hmI : (mk : Int) = 65535 := by rw [hmk]; rfl
          have HTK := Lib.hid htk
          rw [hmI] at HGd
          clear htk hmk hmI
          go_wp2_with fail
          refine (HGd.out _).mono ?_
          rintro e w6 ⟨rfl, b6⟩
          have g6 := Gr.ofBelow (cs := []) b6
          replace c0 := (g6.cell0 (World.block_lt_of_cell? w5 _ c0)).trans c0
          have H6 := Lib.hid (And.intro (H5.out.1.gr0 g6) (And.intro (H5.out.2.1.next0 g6) (H5.out.2.2.next0 g6)))
          clear b6 g6
          go_wp2_with fail
          refine (HPW.out _ H6.out.1).mono ?_
          rintro e w7 ⟨rfl, d7, g7⟩
          have H7 := Lib.hid (And.intro d7 (And.intro (H6.out.2.1.trans g7) (H6.out.2.2.trans g7)))
          clear d7 g7 c0
          rcases HSt.out with ⟨rfl, z1⟩ | ⟨rfl, z1, _⟩ | ⟨rfl, _, Bz, z2, z3, z4, z5, z6, z7⟩
          · have HX3 := Lib.hid ((z1 m).symm.trans HX2.out)
            clear z1
            go_wp2_with fail
            go_ret
            rw [← HX3.out]
            exact ⟨rfl, H7.out.1, HFW.out.mono (by have := HNN.out; omega), H7.out.2.1⟩
          · exact absurd (HTK.out.symm.trans z1) (by simp)
          · have HX3 := Lib.hid (And.intro ((z7 m).symm.trans HX2.out) (And.intro z2 (And.intro z3 (And.intro z4 (And.intro z5 z6)))))
            clear z2 z3 z4 z5 z6 z7
            go_wp2_with fail
            go_roundg m
            case measure => omega
            case rel => exact ⟨D2, Bz, by omega, H7.out.1, HX3.out.2.2.2.1, HX3.out.2.2.1, HX3.out.2.2.2.2.1, HX3.out.2.2.2.2.2.trans HDN.out.2.2, by have := HX3.out.2.1; have := HU.out; have := HR.out.2.2.2.2.2.1; omega, HX3.out.1, HFW.out.mono (by omega), H7.out.2.2⟩
end
end Go.Proofs.YtdgcninmpcmdcaaGreat

/-
  Layer 5: the document's Write.
-/
namespace Go.Proofs.YtdgcninmpcmdcaaGreat
open Go.RowKit
set_option linter.unusedVariables false

section
variable {p : PlanZ} {D : DevS} {B : BkS} {s : ByteArray} {i : Int}
/-- The first Put of a write, done: all is as it should be for retire. -/
theorem put_zero {l : Nat} {D1 : DevS} (h : TI p (bare D) B) (hd : Live D) (hmb : MB D) (hok : okZ p = true) (hl1 : p.a + tabZ p ≤ (l : Int)) (hln : l < D.n) (hs : s.size = 64) (he : putE D (l : Int) s = (0, D1)) : Live D1 ∧ TI p (bare D1) B ∧ MB D1 ∧ D1.n = D.n := by
  rcases put_live (l := l) hd hln hs with ⟨E2, e2, s2⟩ | ⟨E, e2, s2⟩
  · rw [he] at e2
    have : D1 = E2 := (Prod.mk.inj e2).2
    subst this
    exact ⟨s2.live, h.keep (bare_calm D1) (by show D1.n = _; rw [s2.n]; rfl) (fun x hx => by show D1.med x = D.med x; rw [s2.med, if_neg (by omega)]) hok (fun l q1 q2 => by show D1.bad l = _; rw [s2.bad]; exact h.tb l q1 q2), s2.mb hmb (fun k => wdL_lt _ _), s2.n⟩
  · rw [he] at e2
    have : (0 : Int) = 6 := (Prod.mk.inj e2).1
    omega
end
section
variable {w : World} {r : RefA} {D : DevS} {p : PlanZ} {B : BkS} {c : Nat}
/-- What the document's write leaves. -/
def RWPost (w : World) (r : RefA) (c : Nat) (X : Int × DevS × BkS) (e : Ending) (w' : World) : Prop := e = .returned (.int .i64 X.1) ∧ RefIs w' r X.2.1 ∧ Fu X.2.1 (c + 1400) ∧ Gr r.all w w'
set_option maxRecDepth 100000 in
set_option maxHeartbeats 8000000 in
theorem rwrite_any (i : Int) (s : ByteArray) (h : RefIs w r D) (hd : Live D) (hT : TI p (bare D) B) (hmb : MB D) (hb : Fu D c) (hc : c < 600000) (hok : okZ p = true) (hsz : s.size ≤ maxLen) :
    Calls Tryz.prog 44 #[.pointer (some ⟨r.rd, 0, none⟩), planV p, .int .i64 i, .string s] w (RWPost w r c (writeS p i s D B)) := by
  obtain ⟨c0, c1, c2⟩ := rplan_cells p w
  have HG := Lib.hid ((Gr.refl [] w).alloc (Obj.cells #[.int .i64 p.a, .int .i64 p.l, .int .i64 p.s] 74))
  obtain ⟨w1, hw1⟩ : ∃ w1, w1 = w.alloc (Obj.cells #[.int .i64 p.a, .int .i64 p.l, .int .i64 p.s] 74) := ⟨_, rfl⟩
  obtain ⟨pb, hpb⟩ : ∃ pb, pb = w.heap.size := ⟨_, rfl⟩
  have HNP := Lib.hid (show pb ∉ r.all from fun q => by have := h.lt _ q; omega)
  rw [← hpb, ← hw1] at c0 c1 c2
  rw [← hw1] at HG
  by_cases hs : s.size = 64
  · by_cases hi : inP p i
    · obtain ⟨l0, hp, hln, hl1, hl2⟩ := hT.place hok hi
      obtain ⟨l, hM, hlu, hwh⟩ := hT.marks hd hok hmb
      obtain ⟨h1, h2, h3, h4, h5, h6⟩ := (okZ_iff p).1 hok
      have hfit : p.a + sizeZ p ≤ (D.n : Int) := hT.fits
      have hln2 : l0 < D.n := hln
      have HEn := Lib.hid (show Calls Tryz.prog 94 #[.pointer (some ⟨r.rd, 0, none⟩), .agg #[.int .i64 p.a, .int .i64 p.l, .int .i64 p.s]] w1 _ from rentries_any (h.gr0 HG.out) hd.off hok hfit hM)
      have HWh := Lib.hid (fun (W : World) (po : Option Addr) (pc : Nat) (hr : RowAt W po l) => show Calls Tryz.prog 95 #[.agg #[.int .i64 p.a, .int .i64 p.l, .int .i64 p.s], .slice po l.length pc, .int .i64 i] W _ from rwhere_any i hok hi hM.len (fun j m e => (hM.each j m e).2) hr)
      rw [hwh i hi, hp] at HWh
      have HP := Lib.hid (fun W (q : RefIs W r D) => rput4_any r D (l0 : Int) s c W q hb (by omega) hsz)
      have HFU := Lib.hid (put_fu hb (l0 : Int) s)
      have hwr : writeS p i s D B = if (putE D (l0 : Int) s).1 ≠ 0 then ((putE D (l0 : Int) s).1, (putE D (l0 : Int) s).2, B) else ensureS p i (l0 : Int) s (putE D (l0 : Int) s).2 B := by
        unfold writeS
        rw [if_neg (by simp [hs]), if_pos hi, hp]
      have HD := Lib.hid h
      have HPZ := Lib.hid (fun D1 => put_zero (D1 := D1) hT hd hmb hok hl1 hln2 hs)
      obtain ⟨i0, i9⟩ : 0 ≤ i ∧ i < p.l := hi
      have ik1 : ¬ (i < 0) := by omega
      have ik2 : ¬ (p.l ≤ i) := by omega
      have HK := Lib.hid (And.intro hok (And.intro (show inP p i from ⟨i0, i9⟩) (And.intro hs (And.intro hc hln2))))
      obtain ⟨e1, D1, hx⟩ : ∃ e1 D1, putE D (l0 : Int) s = (e1, D1) := ⟨_, _, rfl⟩
      rw [hx] at HP HFU hwr
      have HX := Lib.hid hx
      have HWR := Lib.hid hwr
      clear h hd hT hmb hb hok hp hln hl1 hl2 hM hlu hwh h1 h2 h3 h4 h5 h6 hfit hln2 hwr hx i0 i9 hc hsz
      obtain ⟨N, hN⟩ : ∃ N, N = l.length := ⟨_, rfl⟩
      rw [← hN] at HEn HWh
      clear hN
      unfold planV
      go_enter Tryz.func44, Tryz.ntmps44
      go_wp2_with fail
      rw [← hw1]
      rw [← hpb]
      clear hw1 hpb hs
      refine HEn.out.mono ?_
      rintro e w2 ⟨po, pc, rfl, hrow, g2⟩
      have HRow := Lib.hid hrow
      replace c0 := (g2.cell0 (World.block_lt_of_cell? w1 _ c0)).trans c0
      replace c1 := (g2.cell0 (World.block_lt_of_cell? w1 _ c1)).trans c1
      replace c2 := (g2.cell0 (World.block_lt_of_cell? w1 _ c2)).trans c2
      have HG2 := Lib.hid (HG.out.trans g2)
      clear hrow g2 HG HEn
      go_wp2_with fail
      refine (HWh.out _ po pc HRow.out).mono ?_
      rintro e w3 ⟨rfl, g3⟩
      replace c0 := (g3.cell0 (World.block_lt_of_cell? w2 _ c0)).trans c0
      replace c1 := (g3.cell0 (World.block_lt_of_cell? w2 _ c1)).trans c1
      replace c2 := (g3.cell0 (World.block_lt_of_cell? w2 _ c2)).trans c2
      have HG3 := Lib.hid (HG2.out.trans g3)
      clear g3 HG2 HRow HWh
      go_wp2_with fail
      refine (HP.out _ (HD.out.gr0 HG3.out)).mono ?_
      rintro e w4 ⟨rfl, d4, g4⟩
      replace c0 := (cell_gr g4 (World.block_lt_of_cell? w3 _ c0) HNP.out).trans c0
      replace c1 := (cell_gr g4 (World.block_lt_of_cell? w3 _ c1) HNP.out).trans c1
      replace c2 := (cell_gr g4 (World.block_lt_of_cell? w3 _ c2) HNP.out).trans c2
      have H4 := Lib.hid (And.intro d4 ((HG3.out.of0).trans g4))
      clear d4 g4 HP
      by_cases he : e1 = 0
      · subst he
        obtain ⟨z1, z2, z3, z4⟩ := HPZ.out D1 HX.out
        have hq := took_eq z3 (l := l0) (by rw [z4]; exact HK.out.2.2.2.2) HK.out.2.2.1
        obtain ⟨G, hG⟩ : ∃ G, G = medS D1 l0 := ⟨_, rfl⟩
        rw [← hG] at hq
        have HMd := Lib.hid (fun W (q : RefIs W r D1) => show Calls Tryz.prog 33 #[.pointer (some ⟨r.rd, 0, none⟩), .int .i64 (l0 : Int)] W fun e w' => e = .returned (.string G) ∧ Gr [] W w' by rw [hG]; exact rmedia4_any r D1 l0 W q (by rw [z4]; exact HK.out.2.2.2.2) z3)
        have HRt := Lib.hid (fun W (q : RefIs W r D1) => show Calls Tryz.prog 97 #[.pointer (some ⟨r.rd, 0, none⟩), .agg #[.int .i64 p.a, .int .i64 p.l, .int .i64 p.s], .int .i64 i, .string s] W _ from rretire_any i s q z1 z2 z3 HFU.out (by have := HK.out.2.2.2.1; omega) HK.out.1 HK.out.2.1 HK.out.2.2.1)
        have hq2 := hq.symm
        have hwr : writeS p i s D B = ensureS p i (l0 : Int) s D1 B := by rw [HWR.out]; simp
        clear hq hG z1 z2 z3 z4
        cases htk : tookB D1 (l0 : Int) s with
        | true =>
          rw [htk] at hq2
          have HWR2 := Lib.hid (show writeS p i s D B = (0, D1, B) by rw [hwr]; unfold ensureS; rw [htk]; rfl)
          clear htk hwr
          go_wp2_with fail
          refine (HMd.out _ H4.out.1).mono ?_
          rintro e w5 ⟨rfl, g5⟩
          have H5 := Lib.hid (And.intro (H4.out.1.gr0 g5) (H4.out.2.next0 g5))
          clear g5
          go_wp2_with fail
          go_ret
          rw [HWR2.out]
          exact ⟨rfl, H5.out.1, HFU.out.mono (by omega), H5.out.2⟩
        | false =>
          rw [htk] at hq2
          obtain ⟨X, hX⟩ : ∃ X, X = ensS p i s (p.s - (B.used : Int)).toNat D1 B := ⟨_, rfl⟩
          rw [← hX] at HRt
          have HWR2 := Lib.hid (show writeS p i s D B = X by rw [hwr, hX]; unfold ensureS; rw [htk]; rfl)
          clear hX
          clear htk hwr
          go_wp2_with fail
          refine (HMd.out _ H4.out.1).mono ?_
          rintro e w5 ⟨rfl, g5⟩
          replace c0 := (g5.cell0 (World.block_lt_of_cell? w4 _ c0)).trans c0
          replace c1 := (g5.cell0 (World.block_lt_of_cell? w4 _ c1)).trans c1
          replace c2 := (g5.cell0 (World.block_lt_of_cell? w4 _ c2)).trans c2
          have H5 := Lib.hid (And.intro (H4.out.1.gr0 g5) (H4.out.2.next0 g5))
          clear g5
          go_wp2_with fail
          refine (HRt.out _ H5.out.1).mono ?_
          rintro e w6 ⟨rfl, d6, f6, g6⟩
          have H6 := Lib.hid (And.intro d6 (And.intro f6 (H5.out.2.trans g6)))
          clear d6 f6 g6
          go_wp2_with fail
          go_ret
          rw [HWR2.out]
          exact ⟨rfl, H6.out.1, H6.out.2.1.mono (by omega), H6.out.2.2⟩
      · have b1 : (e1 != 0) = true := by simpa using he
        have HWR2 := Lib.hid (show writeS p i s D B = (e1, D1, B) by rw [HWR.out, if_pos he])
        clear he
        go_wp2_with fail
        go_ret
        rw [HWR2.out]
        exact ⟨rfl, H4.out.1, HFU.out.mono (by omega), H4.out.2⟩
    · have HX := Lib.hid (show writeS p i s D B = (3, D, B) by unfold writeS; rw [if_neg (by simp [hs]), if_neg hi])
      have HD := Lib.hid (And.intro h hb)
      have hor : i < 0 ∨ ¬ (i < 0) ∧ p.l ≤ i := by unfold inP at hi; omega
      clear h hd hT hmb hb hok hi hc hsz
      unfold planV
      rcases hor with hor | ⟨hor, hor2⟩
      all_goals
        go_enter Tryz.func44, Tryz.ntmps44
        go_wp2_with fail
        go_ret
        rw [HX.out]
        rw [← hw1]
        exact ⟨rfl, HD.out.1.gr0 HG.out, HD.out.2.mono (by omega), HG.out.of0⟩
  · have HX := Lib.hid (show writeS p i s D B = (2, D, B) by unfold writeS; rw [if_pos hs])
    have HD := Lib.hid (And.intro h hb)
    have b1 : ((s.size : Int) != 64) = true := by simp only [bne_iff_ne, ne_eq]; omega
    clear h hd hT hmb hb hok hc hs
    unfold planV
    go_enter Tryz.func44, Tryz.ntmps44
    go_wp2_with fail
    go_ret
    rw [HX.out]
    rw [← hw1]
    exact ⟨rfl, HD.out.1.gr0 HG.out, HD.out.2.mono (by omega), HG.out.of0⟩
end
end Go.Proofs.YtdgcninmpcmdcaaGreat

/-
  Layer 5: the document's WriteWord.
-/
namespace Go.Proofs.YtdgcninmpcmdcaaGreat
open Go.RowKit
set_option linter.unusedVariables false

/-- A line's text with one word another. -/
def wordK (A : ByteArray) (k v : Nat) : ByteArray := A.extract 0 (8 * k) ++ ⟨(putL v 8).toArray⟩ ++ A.extract (8 * k + 8) 64
theorem wordK_data {A : ByteArray} (k v : Nat) : (wordK A k v).data.toList = (A.data.toList.take (8 * k) ++ putL v 8) ++ (A.data.toList.drop (8 * k + 8)).take (64 - (8 * k + 8)) := by
  unfold wordK
  rw [ByteArray.data_append, Array.toList_append, ByteArray.data_append, Array.toList_append]
  simp only [ByteArray.data_extract, Array.toList_extract, List.extract_eq_take_drop, List.drop_zero]
  simp
theorem wordK_size {A : ByteArray} (hA : A.size = 64) (k v : Nat) (hk : k < 8) : (wordK A k v).size = 64 := by
  show (wordK A k v).data.toList.length = 64
  have a : A.data.toList.length = 64 := hA
  rw [wordK_data, List.length_append, List.length_append, List.length_take, List.length_take, List.length_drop, a, putL_length]
  omega
theorem wordK_word {A : ByteArray} (hA : A.size = 64) (k v : Nat) (hk : k < 8) (hv : v < 18446744073709551616) (j : Nat) (hj : j < 8) : wdL (wordK A k v).data.toList j = updF (wdL A.data.toList) k v j := by
  have a : A.data.toList.length = 64 := hA
  have t8 : (A.data.toList.take (8 * k)).length = 8 * k := by rw [List.length_take, a]; omega
  have t16 : (A.data.toList.take (8 * k) ++ putL v 8).length = 8 * k + 8 := by rw [List.length_append, t8, putL_length]
  unfold wdL updF
  rw [wordK_data]
  by_cases c1 : j = k
  · subst c1
    rw [if_pos rfl, List.append_assoc, List.drop_append, List.drop_eq_nil_of_le (by omega), List.nil_append, t8, Nat.sub_self, List.drop_zero, List.take_append_of_le_length (by rw [putL_length]; omega), List.take_of_length_le (by rw [putL_length]; omega), getL_putL]
    exact Nat.mod_eq_of_lt (by have : (256 : Nat) ^ 8 = 18446744073709551616 := by decide
                               omega)
  · rw [if_neg c1]
    show _ = getL (List.take 8 (List.drop (8 * j) A.data.toList))
    by_cases c0 : j < k
    · rw [List.append_assoc, List.drop_append, t8, show 8 * j - 8 * k = 0 by omega, List.drop_zero, List.take_append_of_le_length (by rw [List.length_drop, t8]; omega), List.drop_take, List.take_take, Nat.min_eq_left (by omega)]
    · rw [List.drop_append, List.drop_eq_nil_of_le (by omega), List.nil_append, t16, List.drop_take, List.drop_drop, List.take_take]
      rw [show 8 * k + 8 + (8 * j - (8 * k + 8)) = 8 * j by omega, Nat.min_eq_left (by omega)]
section
variable {p : PlanZ} {D : DevS} {B : BkS} {i : Int}
theorem pw_zero {l k v : Nat} {D1 : DevS} (h : TI p (bare D) B) (hd : Live D) (hmb : MB D) (hok : okZ p = true) (hl1 : p.a + tabZ p ≤ (l : Int)) (hln : l < D.n) (hk : k < 8) (hv : v < 18446744073709551616) (he : pwE D (l : Int) (k : Int) v = (0, D1)) : Live D1 ∧ TI p (bare D1) B ∧ MB D1 ∧ D1.n = D.n := by
  rcases putword_live (l := l) (k := k) (v := v) hd hln hk with ⟨E2, e2, s2⟩ | ⟨E, e2, s2⟩
  · rw [he] at e2
    have : D1 = E2 := (Prod.mk.inj e2).2
    subst this
    exact ⟨s2.live, h.keep (bare_calm D1) (by show D1.n = _; rw [s2.n]; rfl) (fun x hx => by show D1.med x = D.med x; rw [s2.med, if_neg (by omega)]) hok (fun l q1 q2 => by show D1.bad l = _; rw [s2.bad]; exact h.tb l q1 q2), s2.mb hmb (fun _ => hv), s2.n⟩
  · rw [he] at e2
    have : (0 : Int) = 6 := (Prod.mk.inj e2).1
    omega
/-- The document's text is the program's. -/
theorem wordK_text {l k v : Nat} (hd : Live D) (hmb : MB D) (hk : k < 8) (hv : v < 18446744073709551616) : wordK (⟨(getT D l).toArray⟩ : ByteArray) k v = textU (updF (lineF D l) k v) := by
  have hs : (⟨(getT D l).toArray⟩ : ByteArray).size = 64 := by rw [lineF_text]; exact textU_size _
  have hF : ∀ j, lineF D l j < 18446744073709551616 := fun j => by rw [lineF_live hd]; exact hmb _
  have hF2 : ∀ j, updF (lineF D l) k v j < 18446744073709551616 := fun j => by
    unfold updF; split
    · exact hv
    · exact hF j
  refine bytes_eq (wordK_size hs k v hk) (textU_size _) fun j hj => ?_
  rw [wordK_word hs k v hk hv j hj, wd_textU hF2 j hj]
  unfold updF
  split
  · rfl
  · rw [lineF_text, wd_textU hF j hj]
end
section
variable {w : World} {r : RefA} {D : DevS} {p : PlanZ} {B : BkS} {c : Nat}
set_option maxRecDepth 100000 in
set_option maxHeartbeats 8000000 in
theorem rww_any (i k : Int) (v : Nat) (h : RefIs w r D) (hd : Live D) (hT : TI p (bare D) B) (hmb : MB D) (hb : Fu D c) (hc : c < 600000) (hok : okZ p = true) (hv : v < 18446744073709551616) :
    Calls Tryz.prog 45 #[.pointer (some ⟨r.rd, 0, none⟩), planV p, .int .i64 i, .int .i64 k, .int .u64 (v : Int)] w (RWPost w r c (writeWordS p i k v D B)) := by
  obtain ⟨c0, c1, c2⟩ := rplan_cells p w
  have HG := Lib.hid ((Gr.refl [] w).alloc (Obj.cells #[.int .i64 p.a, .int .i64 p.l, .int .i64 p.s] 74))
  obtain ⟨w1, hw1⟩ : ∃ w1, w1 = w.alloc (Obj.cells #[.int .i64 p.a, .int .i64 p.l, .int .i64 p.s] 74) := ⟨_, rfl⟩
  obtain ⟨pb, hpb⟩ : ∃ pb, pb = w.heap.size := ⟨_, rfl⟩
  have HNP := Lib.hid (show pb ∉ r.all from fun q => by have := h.lt _ q; omega)
  rw [← hpb, ← hw1] at c0 c1 c2
  rw [← hw1] at HG
  by_cases hk : 0 ≤ k ∧ k < 8
  · by_cases hi : inP p i
    · obtain ⟨kN, rfl⟩ : ∃ kN : Nat, k = (kN : Int) := ⟨k.toNat, by omega⟩
      have hk8 : kN < 8 := by omega
      obtain ⟨l0, hp, hln, hl1, hl2⟩ := hT.place hok hi
      obtain ⟨l, hM, hlu, hwh⟩ := hT.marks hd hok hmb
      obtain ⟨h1, h2, h3, h4, h5, h6⟩ := (okZ_iff p).1 hok
      have hfit : p.a + sizeZ p ≤ (D.n : Int) := hT.fits
      have hln2 : l0 < D.n := hln
      have HEn := Lib.hid (show Calls Tryz.prog 94 #[.pointer (some ⟨r.rd, 0, none⟩), .agg #[.int .i64 p.a, .int .i64 p.l, .int .i64 p.s]] w1 _ from rentries_any (h.gr0 HG.out) hd.off hok hfit hM)
      have HWh := Lib.hid (fun (W : World) (po : Option Addr) (pc : Nat) (hr : RowAt W po l) => show Calls Tryz.prog 95 #[.agg #[.int .i64 p.a, .int .i64 p.l, .int .i64 p.s], .slice po l.length pc, .int .i64 i] W _ from rwhere_any i hok hi hM.len (fun j m e => (hM.each j m e).2) hr)
      rw [hwh i hi, hp] at HWh
      obtain ⟨s, hsT⟩ : ∃ s, s = textU (updF (lineF D l0) kN v) := ⟨_, rfl⟩
      have hs : s.size = 64 := by rw [hsT]; exact textU_size _
      obtain ⟨A, hA⟩ : ∃ A, A = (⟨(getT D l0).toArray⟩ : ByteArray) := ⟨_, rfl⟩
      have hA64 : A.size = 64 := by rw [hA, lineF_text]; exact textU_size _
      have HWK := Lib.hid (show wordK A kN v = s by rw [hA, hsT]; exact wordK_text hd hmb hk8 hv)
      have HGt := Lib.hid (fun W (q : RefIs W r D) => rget4_yes r D l0 W q hln2 hd.off (fun x => by unfold loadV; rw [hd.buf]; exact hmb x))
      rw [← hA] at HGt
      have HPu := Lib.hid (fun W => show Calls Tryz.prog 78 #[.int .u64 (v : Int), .int .i64 8] W fun e w' => e = .returned (.string ⟨(putL v 8).toArray⟩) ∧ Below W.heap.size W w' from rput_any v 8 W hv (by omega) (by omega))
      have HP := Lib.hid (fun W (q : RefIs W r D) => rputword_any r D (l0 : Int) (kN : Int) v c W q hb (by omega))
      have HFU := Lib.hid (pw_fu hb (l0 : Int) (kN : Int) v)
      have hwr : writeWordS p i (kN : Int) v D B = if (pwE D (l0 : Int) (kN : Int) v).1 ≠ 0 then ((pwE D (l0 : Int) (kN : Int) v).1, (pwE D (l0 : Int) (kN : Int) v).2, B) else ensureS p i (l0 : Int) s (pwE D (l0 : Int) (kN : Int) v).2 B := by
        unfold writeWordS
        rw [if_neg (by omega), if_pos hi, hd.off, hp, hsT, Int.toNat_natCast, Int.toNat_natCast]
        simp
      have HD := Lib.hid h
      have HPZ := Lib.hid (fun D1 => pw_zero (D1 := D1) hT hd hmb hok hl1 hln2 hk8 hv)
      obtain ⟨i0, i9⟩ : 0 ≤ i ∧ i < p.l := hi
      have ik1 : ¬ (i < 0) := by omega
      have ik3 : ¬ ((kN : Int) < 0) := by omega
      have ik4 : ¬ ((7 : Int) < (kN : Int)) := by omega
      obtain ⟨x8, hx8⟩ : ∃ x8 : Nat, x8 = 8 * kN := ⟨_, rfl⟩
      have hqz : 8 * (kN : Int) = (x8 : Int) := by omega
      have hq0 : (0 : Int) ≤ (x8 : Int) := by omega
      have hq1 : (x8 : Int) ≤ 64 := by omega
      have hq2 : (x8 : Int) + 8 ≤ 64 := by omega
      have hq3 : (0 : Int) ≤ (x8 : Int) + 8 := by omega
      have hn8 : ((x8 : Int) + 8).toNat = x8 + 8 := by omega
      have wr1 : IntKind.i64.wrap (x8 : Int) = (x8 : Int) := IntWalk.i64_in _ (by omega)
      have wr2 : IntKind.i64.wrap ((x8 : Int) + 8) = (x8 : Int) + 8 := IntWalk.i64_in _ (by omega)
      have HX8 := Lib.hid hx8
      clear hx8
      have ik2 : ¬ (p.l ≤ i) := by omega
      have HK := Lib.hid (And.intro hok (And.intro (show inP p i from ⟨i0, i9⟩) (And.intro hs (And.intro hc hln2))))
      obtain ⟨e1, D1, hx⟩ : ∃ e1 D1, pwE D (l0 : Int) (kN : Int) v = (e1, D1) := ⟨_, _, rfl⟩
      rw [hx] at HP HFU hwr
      have HX := Lib.hid hx
      have HWR := Lib.hid hwr
      clear h hd hT hmb hb hok hp hln hl1 hl2 hM hlu hwh h1 h2 h3 h4 h5 h6 hfit hln2 hwr hx i0 i9 hc hsT hA hk hv
      obtain ⟨N, hN⟩ : ∃ N, N = l.length := ⟨_, rfl⟩
      rw [← hN] at HEn HWh
      clear hN
      unfold planV
      go_enter Tryz.func45, Tryz.ntmps45
      go_wp2_with fail
      rw [← hw1]
      rw [← hpb]
      clear hw1 hpb hs
      refine HEn.out.mono ?_
      rintro e w2 ⟨po, pc, rfl, hrow, g2⟩
      have HRow := Lib.hid hrow
      replace c0 := (g2.cell0 (World.block_lt_of_cell? w1 _ c0)).trans c0
      replace c1 := (g2.cell0 (World.block_lt_of_cell? w1 _ c1)).trans c1
      replace c2 := (g2.cell0 (World.block_lt_of_cell? w1 _ c2)).trans c2
      have HG2 := Lib.hid (HG.out.trans g2)
      clear hrow g2 HG HEn
      go_wp2_with fail
      refine (HWh.out _ po pc HRow.out).mono ?_
      rintro e w3 ⟨rfl, g3⟩
      replace c0 := (g3.cell0 (World.block_lt_of_cell? w2 _ c0)).trans c0
      replace c1 := (g3.cell0 (World.block_lt_of_cell? w2 _ c1)).trans c1
      replace c2 := (g3.cell0 (World.block_lt_of_cell? w2 _ c2)).trans c2
      have HG3 := Lib.hid (HG2.out.trans g3)
      clear g3 HG2 HRow HWh
      go_wp2_with fail
      refine (HGt.out _ (HD.out.gr0 HG3.out)).mono ?_
      rintro e w3b ⟨rfl, g3⟩
      replace c0 := (g3.cell0 (World.block_lt_of_cell? w3 _ c0)).trans c0
      replace c1 := (g3.cell0 (World.block_lt_of_cell? w3 _ c1)).trans c1
      replace c2 := (g3.cell0 (World.block_lt_of_cell? w3 _ c2)).trans c2
      have HG3 := Lib.hid (HG3.out.trans g3)
      clear g3 HGt
      go_wp2_with fail
      refine (HPu.out _).mono ?_
      rintro e w3c ⟨rfl, b3⟩
      have g3 := Gr.ofBelow (cs := []) b3
      replace c0 := (g3.cell0 (World.block_lt_of_cell? w3b _ c0)).trans c0
      replace c1 := (g3.cell0 (World.block_lt_of_cell? w3b _ c1)).trans c1
      replace c2 := (g3.cell0 (World.block_lt_of_cell? w3b _ c2)).trans c2
      have HG3 := Lib.hid (HG3.out.trans g3)
      clear g3 b3 HPu
      go_wp2_with fail
      obtain ⟨bS, hbS⟩ : ∃ bS : ByteArray, bS = ⟨(putL v 8).toArray⟩ := ⟨_, rfl⟩
      have hb8 : bS.size = 8 := by rw [hbS]; show (putL v 8).toArray.size = 8; rw [List.size_toArray, putL_length]
      obtain ⟨L0, hL0⟩ : ∃ L0, A.extract 0 x8 = L0 := ⟨_, rfl⟩
      have hL8 : L0.size = x8 := by rw [← hL0, ByteArray.size_extract]; omega
      obtain ⟨M0, hM0⟩ : ∃ M0, L0 ++ bS = M0 := ⟨_, rfl⟩
      have hM8 : M0.size = x8 + 8 := by rw [← hM0, ByteArray.size_append]; omega
      obtain ⟨R0, hR0⟩ : ∃ R0, A.extract (x8 + 8) 64 = R0 := ⟨_, rfl⟩
      have hR8 : R0.size = 64 - (x8 + 8) := by rw [← hR0, ByteArray.size_extract]; omega
      have HW0 := Lib.hid (show M0 ++ R0 = s by
        rw [← HWK.out, ← hM0, ← hL0, ← hR0, hbS, HX8.out]
        rfl)
      rw [← hbS]
      clear hbS
      have hx64 : x8 ≤ 56 := by omega
      go_quiet (fail)
      rw [HW0.out]
      clear hb8 hL0 hL8 hM0 hM8 hR0 hR8 hx64 hqz hq0 hq1 hq2 hq3 hn8 wr1 wr2 hA64
      have g3 : Gr [] w3c (w3c.drewN nq) := (Gr.refl [] w3c).drewN nq
      replace c0 := (g3.cell0 (World.block_lt_of_cell? w3c _ c0)).trans c0
      replace c1 := (g3.cell0 (World.block_lt_of_cell? w3c _ c1)).trans c1
      replace c2 := (g3.cell0 (World.block_lt_of_cell? w3c _ c2)).trans c2
      have HG3 := Lib.hid (HG3.out.trans g3)
      clear g3
      generalize w3c.drewN nq = w3 at *
      go_wp2_with fail
      refine (HP.out _ (HD.out.gr0 HG3.out)).mono ?_
      rintro e w4 ⟨rfl, d4, g4⟩
      replace c0 := (cell_gr g4 (World.block_lt_of_cell? w3 _ c0) HNP.out).trans c0
      replace c1 := (cell_gr g4 (World.block_lt_of_cell? w3 _ c1) HNP.out).trans c1
      replace c2 := (cell_gr g4 (World.block_lt_of_cell? w3 _ c2) HNP.out).trans c2
      have H4 := Lib.hid (And.intro d4 ((HG3.out.of0).trans g4))
      clear d4 g4 HP
      by_cases he : e1 = 0
      · subst he
        obtain ⟨z1, z2, z3, z4⟩ := HPZ.out D1 HX.out
        have hq := took_eq z3 (l := l0) (by rw [z4]; exact HK.out.2.2.2.2) HK.out.2.2.1
        obtain ⟨G, hG⟩ : ∃ G, G = medS D1 l0 := ⟨_, rfl⟩
        rw [← hG] at hq
        have HMd := Lib.hid (fun W (q : RefIs W r D1) => show Calls Tryz.prog 33 #[.pointer (some ⟨r.rd, 0, none⟩), .int .i64 (l0 : Int)] W fun e w' => e = .returned (.string G) ∧ Gr [] W w' by rw [hG]; exact rmedia4_any r D1 l0 W q (by rw [z4]; exact HK.out.2.2.2.2) z3)
        have HRt := Lib.hid (fun W (q : RefIs W r D1) => show Calls Tryz.prog 97 #[.pointer (some ⟨r.rd, 0, none⟩), .agg #[.int .i64 p.a, .int .i64 p.l, .int .i64 p.s], .int .i64 i, .string s] W _ from rretire_any i s q z1 z2 z3 HFU.out (by have := HK.out.2.2.2.1; omega) HK.out.1 HK.out.2.1 HK.out.2.2.1)
        have hq2 := hq.symm
        have hwr : writeWordS p i (kN : Int) v D B = ensureS p i (l0 : Int) s D1 B := by rw [HWR.out]; simp
        clear hq hG z1 z2 z3 z4
        cases htk : tookB D1 (l0 : Int) s with
        | true =>
          rw [htk] at hq2
          have HWR2 := Lib.hid (show writeWordS p i (kN : Int) v D B = (0, D1, B) by rw [hwr]; unfold ensureS; rw [htk]; rfl)
          clear htk hwr
          go_wp2_with fail
          refine (HMd.out _ H4.out.1).mono ?_
          rintro e w5 ⟨rfl, g5⟩
          have H5 := Lib.hid (And.intro (H4.out.1.gr0 g5) (H4.out.2.next0 g5))
          clear g5
          go_wp2_with fail
          go_ret
          rw [HWR2.out]
          exact ⟨rfl, H5.out.1, HFU.out.mono (by omega), H5.out.2⟩
        | false =>
          rw [htk] at hq2
          obtain ⟨X, hX⟩ : ∃ X, X = ensS p i s (p.s - (B.used : Int)).toNat D1 B := ⟨_, rfl⟩
          rw [← hX] at HRt
          have HWR2 := Lib.hid (show writeWordS p i (kN : Int) v D B = X by rw [hwr, hX]; unfold ensureS; rw [htk]; rfl)
          clear hX
          clear htk hwr
          go_wp2_with fail
          refine (HMd.out _ H4.out.1).mono ?_
          rintro e w5 ⟨rfl, g5⟩
          replace c0 := (g5.cell0 (World.block_lt_of_cell? w4 _ c0)).trans c0
          replace c1 := (g5.cell0 (World.block_lt_of_cell? w4 _ c1)).trans c1
          replace c2 := (g5.cell0 (World.block_lt_of_cell? w4 _ c2)).trans c2
          have H5 := Lib.hid (And.intro (H4.out.1.gr0 g5) (H4.out.2.next0 g5))
          clear g5
          go_wp2_with fail
          refine (HRt.out _ H5.out.1).mono ?_
          rintro e w6 ⟨rfl, d6, f6, g6⟩
          have H6 := Lib.hid (And.intro d6 (And.intro f6 (H5.out.2.trans g6)))
          clear d6 f6 g6
          go_wp2_with fail
          go_ret
          rw [HWR2.out]
          exact ⟨rfl, H6.out.1, H6.out.2.1.mono (by omega), H6.out.2.2⟩
      · have b1 : (e1 != 0) = true := by simpa using he
        have HWR2 := Lib.hid (show writeWordS p i (kN : Int) v D B = (e1, D1, B) by rw [HWR.out, if_pos he])
        clear he
        go_wp2_with fail
        go_ret
        rw [HWR2.out]
        exact ⟨rfl, H4.out.1, HFU.out.mono (by omega), H4.out.2⟩
    · have HX := Lib.hid (show writeWordS p i k v D B = (3, D, B) by unfold writeWordS; rw [if_neg (by omega), if_neg hi])
      have HD := Lib.hid (And.intro h hb)
      have hor : i < 0 ∨ ¬ (i < 0) ∧ p.l ≤ i := by unfold inP at hi; omega
      have ik3 : ¬ (k < 0) := by omega
      have ik4 : ¬ (7 < k) := by omega
      clear h hd hT hmb hb hok hi hc hk hv
      unfold planV
      rcases hor with hor | ⟨hor, hor2⟩
      all_goals
        go_enter Tryz.func45, Tryz.ntmps45
        go_wp2_with fail
        go_ret
        rw [HX.out]
        rw [← hw1]
        exact ⟨rfl, HD.out.1.gr0 HG.out, HD.out.2.mono (by omega), HG.out.of0⟩
  · have HX := Lib.hid (show writeWordS p i k v D B = (2, D, B) by unfold writeWordS; rw [if_pos (by omega)])
    have HD := Lib.hid (And.intro h hb)
    have hor : k < 0 ∨ ¬ (k < 0) ∧ 7 < k := by omega
    clear h hd hT hmb hb hok hc hk hv
    unfold planV
    rcases hor with hor | ⟨hor, hor2⟩
    all_goals
      go_enter Tryz.func45, Tryz.ntmps45
      go_wp2_with fail
      go_ret
      rw [HX.out]
      rw [← hw1]
      exact ⟨rfl, HD.out.1.gr0 HG.out, HD.out.2.mono (by omega), HG.out.of0⟩
end
end Go.Proofs.YtdgcninmpcmdcaaGreat

/-
  Layer 5: has the device what the document's has?
-/
namespace Go.Proofs.YtdgcninmpcmdcaaGreat
open Go.RowKit
set_option linter.unusedVariables false

theorem RefIs.wearAt {W : World} {r : RefA} {D : DevS} (h : RefIs W r D) {i : Nat} (hi : i < D.n) : W.cell? ⟨r.rr, i, none⟩ = some (.int .i64 (D.wear i)) := by
  obtain ⟨R, h1, h2⟩ := h
  rw [← h2.wear i hi]
  exact h1.wearAt (by rw [h2.n]; exact hi)
end Go.Proofs.YtdgcninmpcmdcaaGreat

/-
  SparePlays: the state between two acts.
-/
namespace Go.Proofs.YtdgcninmpcmdcaaGreat
open Go.RowKit
set_option linter.unusedVariables false

/-- The blocks lie apart. -/
structure SPF (w : World) (a : DevA) (r : RefA) (pb : Nat) : Prop where
  ar : ∀ x ∈ a.all, x ∉ r.all
  pa : pb ∉ a.all
  pr : pb ∉ r.all
  la : ∀ x ∈ a.all, w.heap.size ≤ x
  lr : ∀ x ∈ r.all, w.heap.size ≤ x
/-- The devices. -/
structure SPD (w wr : World) (a : DevA) (r : RefA) (P : PlanZ) (pb : Nat) (D : DevS) (c : Nat) : Prop where
  dev : DevIs wr a D
  ref : RefIs wr r D
  bd : Bd D c
  pl : Holds wr pb #[.int .i64 P.a, .int .i64 P.l, .int .i64 P.s] 74
  gr : Gr [] w wr
/-- The bank. -/
structure SPQ (w wr : World) (a : DevA) (r : RefA) (P : PlanZ) (pb : Nat) (q : BkA) (B : BkS) (m : Nat) : Prop where
  bk : BkIs wr q a P B m
  qr : ∀ x ∈ q.all, x ∉ r.all
  qn : ∀ x ∈ q.all, w.heap.size ≤ x
  qp : pb ∉ q.all
def OnS (P : PlanZ) (D : DevS) (B : BkS) : Prop := Live D ∧ TI P (bare D) B
def OffS (P : PlanZ) (D : DevS) : Prop := D.off = true ∧ ∀ L kp, IsPend D L → ∃ B, TI P (bootD D L kp) B
section
variable {w wr w5 w6 : World} {a : DevA} {r : RefA} {P : PlanZ} {pb : Nat} {D D' : DevS} {B B' : BkS} {q : BkA} {m c : Nat}
theorem SPD.fu (h : SPD w wr a r P pb D c) : Fu D c := ⟨h.bd, h.dev.ok.fu⟩
theorem SPD.mb (h : SPD w wr a r P pb D c) : MB D := h.dev.ok.medB
theorem SPD.gr0 (h : SPD w wr a r P pb D c) (g : Gr [] wr w5) : SPD w w5 a r P pb D c := ⟨h.dev.gr0 g, h.ref.gr0 g, h.bd, h.pl.gr0 g, h.gr.trans g⟩
theorem SPQ.gr0 (h : SPQ w wr a r P pb q B m) (g : Gr [] wr w5) : SPQ w w5 a r P pb q B m := ⟨h.bk.gr0 g, h.qr, h.qn, h.qp⟩
theorem SPD.more (h : SPD w wr a r P pb D c) {c' : Nat} (hc : c ≤ c') : SPD w wr a r P pb D c' := ⟨h.dev, h.ref, h.bd.mono hc, h.pl, h.gr⟩
theorem SPQ.more (h : SPQ w wr a r P pb q B m) {m' : Nat} (hm : m ≤ m') : SPQ w wr a r P pb q B m' := ⟨h.bk.moreN _ hm, h.qr, h.qn, h.qp⟩
/-- The program's side has moved, then the document's. -/
theorem SPD.after (h : SPD w wr a r P pb D c) (F : SPF w a r pb) (hq : SPQ w wr a r P pb q B m) (d5 : DevIs w5 a D') (g5 : Gr (q.all ++ a.all) wr w5) (r6 : RefIs w6 r D') (g6 : Gr r.all w5 w6) {c' : Nat} (hb : Bd D' c') : SPD w w6 a r P pb D' c' :=
  ⟨d5.gr g6 (fun x hx => F.ar x hx), r6, hb, (h.pl.gr g5 (by simp only [List.mem_append, not_or]; exact ⟨hq.qp, F.pa⟩)).gr g6 F.pr,
   (h.gr.nextN g5 fun x hx => by
     rcases List.mem_append.1 hx with hx | hx
     · exact .inr (hq.qn x hx)
     · exact .inr (F.la x hx)).nextN g6 fun x hx => .inr (F.lr x hx)⟩
theorem SPD.mid (h : SPD w wr a r P pb D c) (F : SPF w a r pb) (hq : SPQ w wr a r P pb q B m) (g5 : Gr (q.all ++ a.all) wr w5) : RefIs w5 r D ∧ Gr [] w w5 :=
  ⟨h.ref.gr g5 (fun x hx hy => by
    rcases List.mem_append.1 hy with hy | hy
    · exact hq.qr x hy hx
    · exact F.ar x hy hx), h.gr.nextN g5 fun x hx => by
     rcases List.mem_append.1 hx with hx | hx
     · exact .inr (hq.qn x hx)
     · exact .inr (F.la x hx)⟩
theorem SPQ.after (hq : SPQ w wr a r P pb q B m) (k5 : BkIs w5 q a P B' m) (g6 : Gr r.all w5 w6) {m' : Nat} (hm : m ≤ m') : SPQ w w6 a r P pb q B' m' :=
  ⟨(k5.gr g6 hq.qr).moreN _ hm, hq.qr, hq.qn, hq.qp⟩
theorem SPQ.after2 (hq : SPQ w wr a r P pb q B m) {m2 : Nat} (k5 : BkIs w5 q a P B' m2) (g6 : Gr r.all w5 w6) {m' : Nat} (hm : m2 ≤ m') : SPQ w w6 a r P pb q B' m' :=
  ⟨(k5.gr g6 hq.qr).moreN _ hm, hq.qr, hq.qn, hq.qp⟩
/-- The devices alone have moved. -/
theorem SPD.moved (h : SPD w wr a r P pb D c) (F : SPF w a r pb) (d5 : DevIs w5 a D') (g5 : Gr a.all wr w5) (r6 : RefIs w6 r D') (g6 : Gr r.all w5 w6) {c' : Nat} (hb : Bd D' c') : SPD w w6 a r P pb D' c' :=
  ⟨d5.gr g6 (fun x hx => F.ar x hx), r6, hb, (h.pl.gr g5 F.pa).gr g6 F.pr, (h.gr.nextN g5 fun x hx => .inr (F.la x hx)).nextN g6 fun x hx => .inr (F.lr x hx)⟩
theorem SPD.midA (h : SPD w wr a r P pb D c) (F : SPF w a r pb) (g5 : Gr a.all wr w5) : RefIs w5 r D ∧ Gr [] w w5 :=
  ⟨h.ref.gr g5 (fun x hx hy => F.ar x hy hx), h.gr.nextN g5 fun x hx => .inr (F.la x hx)⟩
theorem SPQ.moved (hq : SPQ w wr a r P pb q B m) (g5 : Gr a.all wr w5) (g6 : Gr r.all w5 w6) : SPQ w w6 a r P pb q B m :=
  ⟨(hq.bk.grD g5).gr g6 hq.qr, hq.qr, hq.qn, hq.qp⟩
/-- A bank that was opened anew. -/
theorem SPQ.opened (h : SPD w wr a r P pb D c) (hp : pb < wr.heap.size) (hb : BkIs w5 q a P B 64) (hn : ∀ b ∈ q.all, wr.heap.size ≤ b) {m' : Nat} (hm : 64 ≤ m') : SPQ w w5 a r P pb q B m' :=
  ⟨hb.moreN _ hm, fun x hx hy => by have := hn x hx; have := h.ref.lt x hy; omega, fun x hx => Nat.le_trans h.gr.size (hn x hx), fun hx => by have := hn _ hx; omega⟩
theorem wrl_on {i : Int} {l0 : Nat} {s : ByteArray} {C : (Nat → Nat) → Prop} {e : Int} {E : DevS} (h : WrL P i l0 s D B C e E B') : OnS P E B' ∨ OffS P E := by
  unfold WrL at h
  rcases h with ⟨_, h1, h2⟩ | ⟨_, h1, h2⟩ | ⟨_, h1, _, _, h2⟩
  · exact .inl ⟨h1, h2.ti⟩
  · exact .inl ⟨h1, h2.ti⟩
  · exact .inr ⟨h1, fun L kp hL => by obtain ⟨B3, z⟩ := h2 L kp hL; exact ⟨B3, z.ti⟩⟩
theorem on_write (h : OnS P D B) (hok : okZ P = true) (i : Int) (s : ByteArray) : OnS P (writeS P i s D B).2.1 (writeS P i s D B).2.2 ∨ OffS P (writeS P i s D B).2.1 := by
  by_cases hs : s.size = 64
  · by_cases hi : inP P i
    · obtain ⟨l0, e, E, B', _, h2, h3⟩ := write_last h.2 h.1 hok hi hs
      rw [h2]
      exact wrl_on h3
    · rw [show writeS P i s D B = (3, D, B) by unfold writeS; rw [if_neg (by simp [hs]), if_neg hi]]
      exact .inl h
  · rw [show writeS P i s D B = (2, D, B) by unfold writeS; rw [if_pos hs]]
    exact .inl h
theorem on_ww (h : OnS P D B) (hok : okZ P = true) (hm : MB D) (i k : Int) {v : Nat} (hv : v < 18446744073709551616) : OnS P (writeWordS P i k v D B).2.1 (writeWordS P i k v D B).2.2 ∨ OffS P (writeWordS P i k v D B).2.1 := by
  by_cases hk : k < 0 ∨ 8 ≤ k
  · rw [show writeWordS P i k v D B = (2, D, B) by unfold writeWordS; rw [if_pos hk]]
    exact .inl h
  · by_cases hi : inP P i
    · obtain ⟨kN, rfl⟩ : ∃ kN : Nat, k = (kN : Int) := ⟨k.toNat, by omega⟩
      obtain ⟨l0, e, E, B', _, h2, h3⟩ := ww_last h.2 h.1 hm hv hok hi (show kN < 8 by omega)
      rw [h2]
      exact wrl_on h3
    · rw [show writeWordS P i k v D B = (3, D, B) by unfold writeWordS; rw [if_neg hk, if_neg hi]]
      exact .inl h
/-- Boot, from on or off: a table that is right. -/
theorem ons_boot (h : OnS P D B ∨ OffS P D) (hok : okZ P = true) {L : List Nat} (kp : Nat → Bool) (hL : IsPend D L) : ∃ B', OnS P (bootD D L kp) B' ∧ TI P (bootD D L kp) B' := by
  have key : ∀ B', TI P (bootD D L kp) B' → OnS P (bootD D L kp) B' ∧ TI P (bootD D L kp) B' := fun B' t => ⟨⟨⟨rfl, fun _ => rfl⟩, t.congr hok (bare_calm _) rfl rfl rfl⟩, t⟩
  rcases h with h | h
  · exact ⟨B, key B (h.2.congr hok (boot_calm D L kp) rfl rfl (boot_live kp h.1 hL))⟩
  · obtain ⟨B', t⟩ := h.2 L kp hL
    exact ⟨B', key B' t⟩
theorem boot_bd {L : List Nat} {kp : Nat → Bool} (h : Bd D c) : Bd (bootD D L kp) (c + 1) := Bd.mono (Bnd.boot (c := c) h L kp) (Nat.le_refl _)
theorem on_break (h : OnS P D B) (hok : okZ P = true) {k : Nat} (hk : P.a + tabZ P ≤ (k : Int)) : OnS P { D with bad := fun j => if j = k then true else D.bad j } B :=
  ⟨⟨h.1.off, h.1.buf⟩, h.2.keep (bare_calm _) rfl (fun _ _ => rfl) hok (fun l q1 q2 => by
    show (if l = k then true else D.bad l) = false
    rw [if_neg (by omega)]
    exact h.2.tb l q1 q2)⟩
theorem on_fuse (h : OnS P D B) (f : Int) : OnS P { D with fuse := f } B := ⟨⟨h.1.off, h.1.buf⟩, h.2⟩
end
end Go.Proofs.YtdgcninmpcmdcaaGreat
