/-
  MgX: SpBa, SpBb.
-/
import Derived.Test.YtgifjnniohcacaaGreatMgP
import Derived.Test.YtgifjnniohcacaaGreatMgS
import Derived.Test.YtgifjnniohcacaaGreatMgO
import Derived.Test.YtgifjnniohcacaaGreatMgZ
import Derived.Test.YtgifjnniohcacaaGreatMgAc

/-
  Layer 5, pure: the marks of a table, and where they say that a line is.
-/
namespace Go.Proofs.YtgifjnniohcacaaGreat
open Go.RowKit
set_option linter.unusedVariables false

def noteL : List Nat → Nat → BkS → BkS
  | [], _, B => B
  | m :: l, k, B => noteL l (k + 1) ⟨B.used + 1, if m = 65535 then B.wh else updZ B.wh ((m : Int) - 1) (some k)⟩
def whereF (p : PlanZ) (i : Int) : List Nat → Nat → Int → Int
  | [], _, z => z
  | m :: l, k, z => whereF p i l (k + 1) (if (m : Int) = i + 1 then spareP p (k : Int) else z)
def okM (p : PlanZ) (m : Nat) : Prop := m ≠ 0 ∧ m < 281474976710656 ∧ ((m : Int) ≤ p.l ∨ m = 65535)
theorem noteL_used : ∀ (l : List Nat) (k : Nat) (B : BkS), (noteL l k B).used = B.used + l.length
  | [], _, _ => rfl
  | m :: l, k, B => by
    rw [noteL, noteL_used l, List.length_cons]
    show B.used + 1 + l.length = _
    omega
theorem noteL_place {p : PlanZ} {i : Int} (hi : inP p i) (hl : p.l ≤ 1026) : ∀ (l : List Nat) (k : Nat) (B : BkS), placeP p (noteL l k B) i = whereF p i l k (placeP p B i)
  | [], _, _ => rfl
  | m :: l, k, B => by
    rw [noteL, whereF, noteL_place hi hl l]
    congr 1
    obtain ⟨i0, i1⟩ : 0 ≤ i ∧ i < p.l := hi
    by_cases c : (m : Int) = i + 1
    · rw [if_pos c]
      unfold placeP
      rw [if_neg (show ¬ m = 65535 by omega)]
      simp only
      unfold updZ
      rw [if_pos (show i = (m : Int) - 1 by omega)]
    · rw [if_neg c]
      unfold placeP
      by_cases d : m = 65535
      · rw [if_pos d]
      · rw [if_neg d]
        simp only
        unfold updZ
        rw [if_neg (show ¬ i = (m : Int) - 1 by omega)]
theorem guard_low {v : Nat} (hv : v < 18446744073709551616) (h : guardN v = v) : guardN (low48 v) = v := by
  have hp : putL (low48 v) 6 = putL v 6 := putL_eq_of_bits fun i hi => by
    unfold low48
    rw [show (281474976710656 : Nat) = 2 ^ 48 from rfl, Nat.testBit_mod_two_pow, decide_eq_true (by omega), Bool.true_and]
  have hl : guardN (low48 v) < 2 ^ 64 := guardN_lt _ (by unfold low48; omega)
  apply Nat.eq_of_testBit_eq
  intro i
  by_cases c : i < 64
  · rw [guard_bit _ i c, check_congr hp]
    by_cases d : 48 ≤ i
    · rw [if_pos d]
      have := guard_bit v i c
      rw [if_pos d, h] at this
      exact this.symm
    · rw [if_neg d]
      unfold low48
      rw [show (281474976710656 : Nat) = 2 ^ 48 from rfl, Nat.testBit_mod_two_pow, decide_eq_true (by omega), Bool.true_and]
  · rw [Nat.testBit_lt_two_pow (Nat.lt_of_lt_of_le hl (Nat.pow_le_pow_right (n := 2) (by omega) (show 64 ≤ i by omega))), Nat.testBit_lt_two_pow (Nat.lt_of_lt_of_le (show v < 2 ^ 64 from hv) (Nat.pow_le_pow_right (n := 2) (by omega) (show 64 ≤ i by omega)))]
/-- The table's marks: the words that aren't noughts, the first ones. -/
structure Marks (p : PlanZ) (D : DevS) (l : List Nat) : Prop where
  len : (l.length : Int) ≤ p.s
  each : ∀ (j m : Nat), l[j]? = some m → loadV D (8 * p.a.toNat + j) = guardN m ∧ okM p m
  zero : ∀ j : Nat, l.length ≤ j → (j : Int) < p.s → loadV D (8 * p.a.toNat + j) = 0
section
variable {p : PlanZ} {D : DevS} {B : BkS}
theorem note_used {k v : Nat} {B : BkS} : (noteS p k v B).2.used ≤ B.used + 1 := by
  unfold noteS
  split
  · exact Nat.le_succ _
  · split
    · exact Nat.le_succ _
    · exact Nat.le_refl _
theorem openS_used : ∀ (r k : Nat) (B B' : BkS), openS p D r k B = (0, B') → B'.used ≤ B.used + r
  | 0, k, B, B', h => by
    have : B = B' := (Prod.mk.inj h).2
    rw [this]; exact Nat.le_refl _
  | r + 1, k, B, B', h => by
    rw [openS] at h
    by_cases c : (noteS p k (loadV D (8 * p.a.toNat + k)) B).1 ≠ 0
    · rw [if_pos c] at h
      cases h
    · rw [if_neg c] at h
      have h1 := openS_used r (k + 1) _ B' h
      have h2 : (noteS p k (loadV D (8 * p.a.toNat + k)) B).2.used ≤ B.used + 1 := note_used
      omega
theorem openS_marks (hm : ∀ i, loadV D i < 18446744073709551616) : ∀ (r k : Nat) (B B' : BkS), openS p D r k B = (0, B') → B'.used = B.used + r →
    ∃ l : List Nat, l.length = r ∧ B' = noteL l k B ∧ ∀ (j m : Nat), l[j]? = some m → loadV D (8 * p.a.toNat + (k + j)) = guardN m ∧ okM p m
  | 0, k, B, B', h, _ => ⟨[], rfl, (Prod.mk.inj h).2.symm, fun j m e => by simp at e⟩
  | r + 1, k, B, B', h, hu => by
    rw [openS] at h
    have hv := hm (8 * p.a.toNat + k)
    obtain ⟨v, hvv⟩ : ∃ v, v = loadV D (8 * p.a.toNat + k) := ⟨_, rfl⟩
    rw [← hvv] at h hv
    by_cases c : (noteS p k v B).1 ≠ 0
    · rw [if_pos c] at h
      cases h
    · rw [if_neg c] at h
      have h1 := openS_used r (k + 1) _ B' h
      have hv0 : v ≠ 0 := by
        intro e
        have : (noteS p k v B).2 = B := by unfold noteS; rw [if_pos e]
        rw [this] at h1
        omega
      have hnb : ¬ noteBad p k v B := by
        intro d
        apply c
        unfold noteS
        rw [if_neg hv0, if_pos d]
        simp
      have hn : noteS p k v B = (0, noteB k v B) := by unfold noteS; rw [if_neg hv0, if_neg hnb]
      rw [hn] at h
      obtain ⟨l, l1, l2, l3⟩ := openS_marks hm r (k + 1) (noteB k v B) B' h (by show B'.used = B.used + 1 + r; omega)
      refine ⟨low48 v :: l, by rw [List.length_cons, l1], ?_, fun j m e => ?_⟩
      · rw [l2, noteL]
        rfl
      · cases j with
        | zero =>
          rw [List.getElem?_cons_zero] at e
          injection e with e
          subst e
          have hg : guardN v = v := by
            by_cases d : guardN v = v
            · exact d
            · exact absurd (Or.inl d) hnb
          refine ⟨by rw [Nat.add_zero, ← hvv, guard_low hv hg], ?_, low48_lt v, ?_⟩
          · intro d
            exact hnb (.inr (.inr (.inl d)))
          · by_cases d : (low48 v : Int) ≤ p.l
            · exact .inl d
            · right
              by_cases f : low48 v = 65535
              · exact f
              · exact absurd (.inr (.inr (.inr ⟨by omega, f⟩))) hnb
        | succ j =>
          rw [List.getElem?_cons_succ] at e
          rw [show k + (j + 1) = k + 1 + j by omega]
          exact l3 j m e
theorem TI.marks (h : TI p (bare D) B) (hd : Live D) (hok : okZ p = true) (hm : ∀ x, D.med x < 18446744073709551616) : ∃ l : List Nat, Marks p D l ∧ l.length = B.used ∧ ∀ i, inP p i → whereF p i l 0 (lineP p i) = placeP p B i := by
  have hld : ∀ i, loadV D i = loadV (bare D) i := fun i => by unfold loadV; rw [hd.buf]; rfl
  have hld2 : ∀ i, loadV (bare D) i = D.med i := fun i => rfl
  obtain ⟨l, l1, l2, l3⟩ := openS_marks (fun i => by rw [hld2]; exact hm i) _ 0 _ _ h.op (by show B.used = 0 + B.used; omega)
  obtain ⟨h1, h2, h3, h4, h5, h6⟩ := (okZ_iff p).1 hok
  refine ⟨l, ⟨by rw [l1]; exact h.us, fun j m e => ?_, fun j q1 q2 => ?_⟩, l1, fun i hi => ?_⟩
  · have := l3 j m e
    rw [Nat.zero_add] at this
    rw [hld]
    exact this
  · rw [hld, hld2]
    exact h.free j (by omega) q2
  · rw [l2, noteL_place hi (by omega)]
    rfl
end
end Go.Proofs.YtgifjnniohcacaaGreat

/-
  Layer 5: the document's Entries and Where.
-/
namespace Go.Proofs.YtgifjnniohcacaaGreat
open Go.RowKit
set_option linter.unusedVariables false

/-- A row of marks, wherever it lies. -/
def RowAt (W : World) (po : Option Addr) (l : List Nat) : Prop := ∀ (k m : Nat), l[k]? = some m → ∃ g, po = some ⟨g, 0, none⟩ ∧ g < W.heap.size ∧ W.cell? ⟨g, k, none⟩ = some (.int .i64 (m : Int))
theorem RowAt.gr0 {W W' : World} {po : Option Addr} {l : List Nat} (h : RowAt W po l) (g : Gr [] W W') : RowAt W' po l := fun k m e => by
  obtain ⟨b, h1, h2, h3⟩ := h k m e
  exact ⟨b, h1, Nat.lt_of_lt_of_le h2 g.size, (g.cell0 h2).trans h3⟩
theorem rowAt_of {w0 w1 : World} {v : Value} {L : List Nat} (h : w1.ownsRow w0.heap.size 3 1 v L.length (L.map fun m : Nat => Value.int .i64 (m : Int))) : ∃ po pc, v = .slice po L.length pc ∧ RowAt w1 po L := by
  have hcells := fun g (hg : v.ownBlock = some g) => h.cells hg
  rcases h.2 with ⟨h1, h0⟩ | ⟨g, cap, cur, rfl, hg, hh, _⟩
  · have : L = [] := List.length_eq_zero_iff.1 h0
    subst this
    exact ⟨none, 0, h1, fun k m e => by simp at e⟩
  · refine ⟨some ⟨g, 0, none⟩, cap, rfl, fun k m e => ⟨g, rfl, (Array.getElem?_eq_some_iff.1 hh).1, ?_⟩⟩
    have := hcells g rfl k (.int .i64 (m : Int)) (by rw [List.getElem?_map, e]; rfl)
    rw [addp] at this
    first | exact this | (rw [Nat.zero_add] at this; exact this)
section
variable {w : World} {r : RefA} {D : DevS} {p : PlanZ} {l : List Nat}
set_option maxRecDepth 100000 in
set_option maxHeartbeats 8000000 in
theorem rwhere_any (i : Int) (hok : okZ p = true) (hi : inP p i) (hl : (l.length : Int) ≤ p.s) (hm : ∀ (j m : Nat), l[j]? = some m → okM p m) {po : Option Addr} {pc : Nat} (hr : RowAt w po l) :
    Calls Tryz.prog 17 #[planV p, .slice po l.length pc, .int .i64 i] w fun e w' => e = .returned (.int .i64 (whereF p i l 0 (lineP p i))) ∧ Gr [] w w' := by
  obtain ⟨h1, h2, h3, h4, h5, h6⟩ := (okZ_iff p).1 hok
  obtain ⟨i0, i9⟩ : 0 ≤ i ∧ i < p.l := hi
  have ht : 0 ≤ tabZ p ∧ tabZ p ≤ 8 := by unfold tabZ; omega
  obtain ⟨c0, c1, c2⟩ := rplan_cells p w
  have HG := Lib.hid ((Gr.refl [] w).alloc (Obj.cells #[.int .i64 p.a, .int .i64 p.l, .int .i64 p.s] 25))
  obtain ⟨w1, hw1⟩ : ∃ w1, w1 = w.alloc (Obj.cells #[.int .i64 p.a, .int .i64 p.l, .int .i64 p.s] 25) := ⟨_, rfl⟩
  obtain ⟨pb, hpb⟩ : ∃ pb, pb = w.heap.size := ⟨_, rfl⟩
  rw [← hpb] at c0 c1 c2
  have HT := Lib.hid (fun W => show Calls Tryz.prog 51 #[.agg #[.int .i64 p.a, .int .i64 p.l, .int .i64 p.s]] W _ from rtable_any p hok W)
  obtain ⟨t, htt⟩ : ∃ t, t = tabZ p := ⟨_, rfl⟩
  have HZ := Lib.hid (show lineP p i = p.a + t + i by rw [htt]; rfl)
  have HSP := Lib.hid (show ∀ k : Int, spareP p k = p.a + t + p.l + k from fun k => by rw [htt]; rfl)
  rw [← htt] at HT ht
  have HR := Lib.hid hr
  have HM := Lib.hid hm
  have HB := Lib.hid (And.intro h1 (And.intro h2 (And.intro h4 (And.intro ht (And.intro hl (And.intro h6 (And.intro h3 h5)))))))
  obtain ⟨L, hL⟩ : ∃ L, L = l.length := ⟨_, rfl⟩
  have HL := Lib.hid hL
  have hL64 : L ≤ 64 := by omega
  have HL64 := Lib.hid hL64
  rw [← hL]
  have a1 : IntKind.i64.wrap (p.a + t) = p.a + t := IntWalk.i64_in _ (by omega)
  have a2 : IntKind.i64.wrap (p.a + t + i) = p.a + t + i := IntWalk.i64_in _ (by omega)
  have HII := Lib.hid (And.intro i0 i9)
  clear htt hok hr hm hl h1 h2 h3 h4 h5 h6 ht hL i0 i9
  unfold planV
  go_enter Tryz.func17, Tryz.ntmps17
  go_wp2_with fail
  rw [← hw1] at c0 c1 c2 HG ⊢
  rw [← hpb]
  clear hw1 hpb
  refine (HT.out _).mono ?_
  rintro e w2 ⟨rfl, b2⟩
  have HG2 := Lib.hid (HG.out.nextB b2)
  replace c0 := (Gr.ofBelow (cs := []) b2).cell0 (World.block_lt_of_cell? w1 _ c0) |>.trans c0
  replace c1 := (Gr.ofBelow (cs := []) b2).cell0 (World.block_lt_of_cell? w1 _ c1) |>.trans c1
  clear b2 c2 HG HT
  go_wp2_with fail
  go_loopw [8, 9] (fun z k wr => ∃ (j : Nat) (zz : Int), j ≤ L ∧ k = .int .i64 (j : Int) ∧ z = .int .i64 zz ∧ whereF p i (l.drop j) j zz = whereF p i l 0 (lineP p i) ∧ wr = w2) (fun _ k _ => L - (intOf k).toNat)
  case atStart => exact ⟨0, _, by omega, rfl, rfl, by rw [HZ.out]; rfl, rfl⟩
  case round =>
    obtain ⟨j, zz, hj, rfl, rfl, hz, rfl⟩ := hrel
    by_cases hjL : j < L
    · have ij : (j : Int) < (L : Int) := by omega
      have hjl : j < l.length := by rw [← HL.out]; exact hjL
      obtain ⟨m, hm⟩ : ∃ m, l[j]? = some m := ⟨_, List.getElem?_eq_getElem hjl⟩
      obtain ⟨g, rfl, hg, hcell⟩ := (HR.out.gr0 HG2.out) j m hm
      have hom := HM.out j m hm
      have hdrop : l.drop j = m :: l.drop (j + 1) := by
        rw [List.drop_eq_getElem_cons hjl]
        congr 1
        have := List.getElem?_eq_getElem hjl
        rw [hm] at this
        exact (Option.some.inj this).symm
      rw [hdrop, whereF] at hz
      have HNZ := Lib.hid hz
      obtain ⟨b1, b2, b3, b4, b5, b6, b7, b8⟩ := HB.out
      have a3 : IntKind.i64.wrap (i + 1) = i + 1 := IntWalk.i64_in _ (by have := HII.out; omega)
      have hsp := HSP.out (j : Int)
      by_cases hmi : (m : Int) = i + 1
      · have e1 : ((m : Int) == i + 1) = true := by simpa using hmi
        have a4 : IntKind.i64.wrap (p.a + t + p.l) = p.a + t + p.l := IntWalk.i64_in _ (by omega)
        have a5 : IntKind.i64.wrap (p.a + t + p.l + (j : Int)) = p.a + t + p.l + (j : Int) := IntWalk.i64_in _ (by omega)
        have HNX := Lib.hid (show whereF p i (l.drop (j + 1)) (j + 1) (p.a + t + p.l + (j : Int)) = whereF p i l 0 (lineP p i) by rw [← HNZ.out, if_pos hmi, hsp])
        clear hz hdrop hm hjl hmi hom b1 b2 b3 b4 b5 b6 b7 b8 hsp hg
        go_wp2_with fail
        go_roundw
        case rel => exact ⟨j + 1, _, by omega, by go_num, rfl, HNX.out, trivial⟩
        case measure => simp [intOf]; omega
      · have e1 : ((m : Int) == i + 1) = false := by simpa using hmi
        have HNX := Lib.hid (show whereF p i (l.drop (j + 1)) (j + 1) zz = whereF p i l 0 (lineP p i) by rw [← HNZ.out, if_neg hmi])
        clear hz hdrop hm hjl hmi hom b1 b2 b3 b4 b5 b6 b7 b8 hsp hg
        go_wp2_with fail
        go_roundw
        case rel => exact ⟨j + 1, zz, by omega, by go_num, rfl, HNX.out, trivial⟩
        case measure => simp [intOf]; omega
    · obtain rfl : j = L := by omega
      have ij : ¬ ((j : Int) < (j : Int)) := by omega
      have HE := Lib.hid (show zz = whereF p i l 0 (lineP p i) by
        have e : l.drop j = [] := List.drop_eq_nil_of_le (by rw [← HL.out]; exact Nat.le_refl _)
        rw [e] at hz
        exact hz)
      clear hz
      go_wp2_with fail
      go_ret
      refine ⟨?_, HG2.out⟩
      rw [← HE.out]
      rfl
set_option maxRecDepth 100000 in
set_option maxHeartbeats 8000000 in
theorem rentries_any (h : RefIs w r D) (ho : D.off = false) (hok : okZ p = true) (hfit : p.a + sizeZ p ≤ (D.n : Int)) (hM : Marks p D l) :
    Calls Tryz.prog 14 #[.pointer (some ⟨r.rd, 0, none⟩), planV p] w fun e w' => ∃ po pc, e = .returned (.tuple #[.slice po l.length pc, .int .i64 0]) ∧ RowAt w' po l ∧ Gr [] w w' := by
  obtain ⟨i0, hi, hz0, hz1, hz2⟩ := info_parts infoInt
  have HIN := Lib.hid (And.intro hi (And.intro hz0 (And.intro hz1 hz2)))
  obtain ⟨h1, h2, h3, h4, h5, h6⟩ := (okZ_iff p).1 hok
  have ht : 8 * tabZ p ≥ p.s := by unfold tabZ; omega
  have hsz : sizeZ p = tabZ p + p.l + p.s := by unfold sizeZ; rw [if_pos hok]
  have hnI : D.n ≤ 8192 := h.hi
  obtain ⟨aN, haN⟩ : ∃ aN : Nat, p.a = (aN : Int) := ⟨p.a.toNat, by omega⟩
  obtain ⟨S, hS⟩ : ∃ S : Nat, p.s = (S : Int) := ⟨p.s.toNat, by omega⟩
  obtain ⟨c0, c1, c2⟩ := rplan_cells p w
  have HG := Lib.hid ((Gr.refl [] w).alloc (Obj.cells #[.int .i64 p.a, .int .i64 p.l, .int .i64 p.s] 25))
  obtain ⟨w1, hw1⟩ : ∃ w1, w1 = w.alloc (Obj.cells #[.int .i64 p.a, .int .i64 p.l, .int .i64 p.s] 25) := ⟨_, rfl⟩
  obtain ⟨pb, hpb⟩ : ∃ pb, pb = w.heap.size := ⟨_, rfl⟩
  rw [← hpb, ← hw1] at c0 c1 c2
  rw [hS] at c2
  have HCP := Lib.hid (And.intro c0 (And.intro c1 c2))
  have HLd := Lib.hid (fun (k : Nat) (hk : k < S) W (hW : RefIs W r D) => show Calls Tryz.prog 47 #[.pointer (some ⟨r.rd, 0, none⟩), .int .i64 (8 * p.a + (k : Int))] W fun e w' => e = .returned (.tuple #[.int .u64 (loadV D (8 * p.a.toNat + k) : Int), .int .i64 0]) ∧ W = w' by
    have q := ref_load (8 * p.a + (k : Int)) hW
    rw [show 8 * p.a + (k : Int) = ((8 * p.a.toNat + k : Nat) : Int) by omega, loadP_ok ho (by omega)] at q
    rw [show 8 * p.a + (k : Int) = ((8 * p.a.toNat + k : Nat) : Int) by omega]
    exact q)
  have HW := Lib.hid (show ∀ k : Nat, k < S → IntKind.i64.wrap (8 * p.a) = 8 * p.a ∧ IntKind.i64.wrap (8 * p.a + (k : Int)) = 8 * p.a + (k : Int) from fun k hk => ⟨IntWalk.i64_in _ (by omega), IntWalk.i64_in _ (by omega)⟩)
  have HD := Lib.hid h
  have HM := Lib.hid hM
  have HS := Lib.hid (And.intro hS (And.intro (show S ≤ 64 by omega) (And.intro (show l.length ≤ S by have := hM.len; omega) (And.intro h3 h4))))
  clear h ho hok hfit hM hi hz0 hz1 hz2 h1 h2 h3 h4 h5 h6 ht hsz hnI haN c0 c1 c2
  rw [hS] at hw1
  unfold planV
  rw [hS]
  clear hS
  go_enter Tryz.func14, Tryz.ntmps14
  go_wp2_with fail
  rw [← hw1, ← hpb]
  have HG1 := Lib.hid (show Gr [] w w1 by rw [hw1, ← HS.out.1]; exact HG.out)
  clear hw1 hpb HG
  go_loopw [6, 7, 8] (fun v f k wr => ∃ j : Nat, j ≤ S ∧ k = .int .i64 (j : Int) ∧ f = .bool (decide (l.length < j)) ∧ wr.ownsRow w1.heap.size 3 1 v (l.take j).length ((l.take j).map fun m : Nat => Value.int .i64 (m : Int)) ∧ Gr [] w1 wr) (fun _ _ k _ => S - (intOf k).toNat)
  case atStart => exact ⟨0, by omega, rfl, by rw [decide_eq_false (by omega)], World.ownsRow_nil _ _ _ _, Gr.refl _ _⟩
  case round =>
    obtain ⟨j, hj, rfl, rfl, hown, g⟩ := hrel
    have c0 := (g.cell0 (World.block_lt_of_cell? w1 _ HCP.out.1)).trans HCP.out.1
    have c1 := (g.cell0 (World.block_lt_of_cell? w1 _ HCP.out.2.1)).trans HCP.out.2.1
    have c2 := (g.cell0 (World.block_lt_of_cell? w1 _ HCP.out.2.2)).trans HCP.out.2.2
    have HGR := Lib.hid (And.intro hown g)
    have hS64 : S ≤ 64 := HS.out.2.1
    by_cases hjS : j < S
    · have ij : (j : Int) < (S : Int) := by omega
      obtain ⟨i1, i2⟩ := HW.out j hjS
      have HLj := Lib.hid (HLd.out j hjS wr ((HD.out.gr0 HG1.out).gr0 g))
      by_cases hjl : j < l.length
      · obtain ⟨m, hm⟩ : ∃ m, l[j]? = some m := ⟨_, List.getElem?_eq_getElem hjl⟩
        obtain ⟨hld, hm0, hmb, hmo⟩ := HM.out.each j m hm
        have hgv : guardN m < 18446744073709551616 := guardN_lt m (by omega)
        have hlow : guardN m % 281474976710656 = m := low_guard hmb
        have HGd := Lib.hid (fun W => rguard m W (by omega))
        rw [hld] at HLj
        obtain ⟨v, hv⟩ : ∃ v, v = guardN m := ⟨_, rfl⟩
        rw [← hv] at HLj HGd hgv hlow
        have z0 : ((v : Int) == 0) = false := by
          have : v ≠ 0 := fun e => by rw [e] at hlow; exact hm0 (by omega)
          simp only [beq_eq_false_iff_ne, ne_eq]
          omega
        have hr : (v : Int) % 281474976710656 = (m : Int) := by omega
        have hf : decide (l.length < j) = false := decide_eq_false (by omega)
        have HTK := Lib.hid (show (l.take (j + 1)).map (fun m : Nat => Value.int .i64 (m : Int)) = (l.take j).map (fun m : Nat => Value.int .i64 (m : Int)) ++ [.int .i64 (m : Int)] ∧ (l.take (j + 1)).length = (l.take j).length + 1 by
          have e : l.take (j + 1) = l.take j ++ [m] := by rw [List.take_add_one, hm]; rfl
          rw [e, List.map_append, List.length_append]
          exact ⟨rfl, rfl⟩)
        have htl : (l.take j).length ≤ 64 := by rw [List.length_take]; have := HS.out; omega
        have HMM := Lib.hid (And.intro hm0 (And.intro hmb hmo))
        have HJL := Lib.hid hjl
        rw [hf]
        generalize (l.take j).map (fun m : Nat => Value.int .i64 (m : Int)) = R at *
        generalize (l.take j).length = N at *
        clear hld hm0 hm hv hf hjl hlow hmb
        go_wp2_with fail
        refine HLj.out.mono ?_
        rintro e w' ⟨rfl, rfl⟩
        go_wp2_with fail
        refine (HGd.out _).mono ?_
        rintro e w2 ⟨rfl, b2⟩
        have g2 := Gr.ofBelow (cs := []) b2
        have HGR2 := Lib.hid (And.intro (own_gr0 HGR.out.1 g2) (HGR.out.2.trans g2))
        have c0 := (g2.cell0 (World.block_lt_of_cell? wr _ c0)).trans c0
        have c1 := (g2.cell0 (World.block_lt_of_cell? wr _ c1)).trans c1
        have c2 := (g2.cell0 (World.block_lt_of_cell? wr _ c2)).trans c2
        have hown := HGR2.out.1
        have hsz := HGR2.out.2.size
        clear b2 g2 g HGR
        obtain ⟨hi, hz0, hz1, hz2⟩ := HIN.out
        have a1 : IntKind.i64.wrap (m : Int) = (m : Int) := IntWalk.i64_in _ (by have := HMM.out.2.1; omega)
        by_cases hd : m = 65535
        · have b1 : ((m : Int) != 65535) = false := by rw [hd]; rfl
          clear hd
          go_wp2_with (at_builtin; refine wpList_append_own _ rfl _ _ 46 rfl w1.heap.size 3 i0 (.int .i64 0) 1 8 Tryz.underlying46 hi hz0 hz1 hz2 rfl (by decide) _ _ _ rfl (hown.alloc _) ⟨w2.heap.size, 0, none⟩ 1 1 [.int .i64 (m : Int)] rfl rfl ?c1 ?c2 ?c3 ?c4 ?c5 ?_)
          case c1 =>
            intro a u ha
            match a, ha with
            | 0, ha => simp at ha; subst ha; simp [Addr.add]
          case c2 => intro u hu; simp at hu; subst hu; rfl
          case c3 => unfold maxLen; omega
          case c4 => omega
          case c5 => simp; omega
          intro v' w3 hown3 hgrow _
          have HNX := Lib.hid (show w3.ownsRow w1.heap.size 3 1 v' (l.take (j + 1)).length ((l.take (j + 1)).map fun m : Nat => Value.int .i64 (m : Int)) ∧ Gr [] w1 w3 from by
            refine ⟨?_, ?_⟩
            · rw [HTK.out.1, HTK.out.2]
              exact hown3
            · exact ((HGR2.out.2.alloc _).grown hgrow (fun x hx => .inr (hown.lt x hx).1)))
          clear hown3 hgrow hown
          go_wp2_with fail
          go_roundw
          case rel => exact ⟨j + 1, by omega, by go_num, by rw [decide_eq_false (show ¬ l.length < j + 1 by have := HJL.out; omega)], HNX.out.1, HNX.out.2⟩
          case measure => simp [intOf]; omega
        · have b1 : ((m : Int) != 65535) = true := by simp only [bne_iff_ne, ne_eq]; omega
          have hml : (m : Int) ≤ p.l := by have := HMM.out.2.2; omega
          have b2 : ¬ ((m : Int) < 1) := by have := HMM.out.1; omega
          have b3 : ¬ (p.l < (m : Int)) := by omega
          have a2 : IntKind.u64.wrap p.l = p.l := IntWalk.u64_in _ (by have := HS.out.2.2.2; omega)
          clear hml
          go_wp2_with (at_builtin; refine wpList_append_own _ rfl _ _ 46 rfl w1.heap.size 3 i0 (.int .i64 0) 1 8 Tryz.underlying46 hi hz0 hz1 hz2 rfl (by decide) _ _ _ rfl (hown.alloc _) ⟨w2.heap.size, 0, none⟩ 1 1 [.int .i64 (m : Int)] rfl rfl ?c1 ?c2 ?c3 ?c4 ?c5 ?_)
          case c1 =>
            intro a u ha
            match a, ha with
            | 0, ha => simp at ha; subst ha; simp [Addr.add]
          case c2 => intro u hu; simp at hu; subst hu; rfl
          case c3 => unfold maxLen; omega
          case c4 => omega
          case c5 => simp; omega
          intro v' w3 hown3 hgrow _
          have HNX := Lib.hid (show w3.ownsRow w1.heap.size 3 1 v' (l.take (j + 1)).length ((l.take (j + 1)).map fun m : Nat => Value.int .i64 (m : Int)) ∧ Gr [] w1 w3 from by
            refine ⟨?_, ?_⟩
            · rw [HTK.out.1, HTK.out.2]
              exact hown3
            · exact ((HGR2.out.2.alloc _).grown hgrow (fun x hx => .inr (hown.lt x hx).1)))
          clear hown3 hgrow hown
          go_wp2_with fail
          go_roundw
          case rel => exact ⟨j + 1, by omega, by go_num, by rw [decide_eq_false (show ¬ l.length < j + 1 by have := HJL.out; omega)], HNX.out.1, HNX.out.2⟩
          case measure => simp [intOf]; omega
      · have hz := HM.out.zero j (by omega) (by have := HS.out.1; omega)
        rw [hz] at HLj
        have HTK := Lib.hid (show l.take (j + 1) = l.take j by rw [List.take_of_length_le (show l.length ≤ j + 1 by omega), List.take_of_length_le (show l.length ≤ j by omega)])
        have HJL := Lib.hid hjl
        clear hz hjl g hown
        generalize decide (l.length < j) = f at *
        go_wp2_with fail
        refine HLj.out.mono ?_
        rintro e w' ⟨rfl, rfl⟩
        go_wp2_with fail
        go_roundw
        case rel => exact ⟨j + 1, by omega, by go_num, by rw [decide_eq_true (show l.length < j + 1 by have := HJL.out; omega)], by rw [HTK.out]; exact HGR.out.1, HGR.out.2⟩
        case measure => simp [intOf]; omega
    · obtain rfl : j = S := by omega
      have ij : ¬ ((j : Int) < (j : Int)) := by omega
      have HTK := Lib.hid (show l.take j = l from List.take_of_length_le HS.out.2.2.1)
      clear g hown
      generalize decide (l.length < j) = f at *
      go_wp2_with fail
      have ho := HGR.out.1
      rw [HTK.out] at ho
      obtain ⟨po, pc, rfl, hrow⟩ := rowAt_of ho
      exact bodyPost_ret (v := .tuple #[.slice po l.length pc, .int .i64 0]) (by simp [results, Tryz.results14, go_sem]) rfl ⟨po, ⟨pc, rfl⟩, hrow, HG1.out.trans HGR.out.2⟩
end
end Go.Proofs.YtgifjnniohcacaaGreat
