/-
  PkAv: SpBb, SpV, Frame, FrameT, FrameN, LnM.
-/
import Derived.Test.YtjbhallhmnahbaaGreatPkAp
import Derived.Test.YtjbhallhmnahbaaGreatPkAt
import Derived.Test.YtjbhallhmnahbaaGreatPkAu
import Derived.Test.YtjbhallhmnahbaaGreatPkAn
import Derived.Test.YtjbhallhmnahbaaGreatPkAa
import Derived.Test.YtjbhallhmnahbaaGreatPkAs
import Derived.Test.YtjbhallhmnahbaaGreatRows
import Derived.WalkKit
import Derived.ProofKit
import Derived.OpenShut
import Derived.SizedLaws
import Derived.Deep.Grids

set_option linter.unusedVariables false

/-
  Layer 5: the document's Entries and Where.
-/
namespace Go.Proofs.YtjbhallhmnahbaaGreat
open Go.RowKit
set_option linter.unusedVariables false

def RowAt (W : World) (po : Option Addr) (l : List Nat) : Prop := ∀ (k m : Nat), l[k]? = some m → ∃ g, po = some ⟨g, 0, none⟩ ∧ g < W.heap.size ∧ W.cell? ⟨g, k, none⟩ = some (.int .i64 (m : Int))
theorem RowAt.gr0 {W W' : World} {po : Option Addr} {l : List Nat} (h : RowAt W po l) (g : Gr [] W W') : RowAt W' po l := fun k m e => by
  obtain ⟨b, h1, h2, h3⟩ := h k m e
  exact ⟨b, h1, Nat.lt_of_lt_of_le h2 g.size, (g.cell0 h2).trans h3⟩
theorem rowAt_of {w0 w1 : World} {v : Value} {L : List Nat} (h : w1.ownsRow w0.heap.size 3 1 v L.length (L.map fun m : Nat => Value.int .i64 (m : Int))) : ∃ po pc, v = .slice po L.length pc ∧ RowAt w1 po L := by
  have hcells := fun g (hg : v.ownBlock = some g) => h.cells hg
  rcases h.2 with ⟨h1, h0⟩ | ⟨g, cap, cur, rfl, hg, hh, _⟩
  · have : L = [] := List.length_eq_zero_iff.1 h0
    subst this
    exact ⟨none, 0, h1, fun k m e => by simp at e⟩
  · refine ⟨some ⟨g, 0, none⟩, cap, rfl, fun k m e => ⟨g, rfl, (Array.getElem?_eq_some_iff.1 hh).1, ?_⟩⟩
    have := hcells g rfl k (.int .i64 (m : Int)) (by rw [List.getElem?_map, e]; rfl)
    rw [addp] at this
    first | exact this | (rw [Nat.zero_add] at this; exact this)
section
variable {w : World} {r : RefA} {D : DevS} {p : PlanZ} {l : List Nat}
set_option maxRecDepth 100000 in
set_option maxHeartbeats 8000000 in
theorem rwhere_any (i : Int) (hok : okZ p = true) (hi : inP p i) (hl : (l.length : Int) ≤ p.s) (hm : ∀ (j m : Nat), l[j]? = some m → okM p m) {po : Option Addr} {pc : Nat} (hr : RowAt w po l) :
    Calls Tryz.prog 136 #[planV p, .slice po l.length pc, .int .i64 i] w fun e w' => e = .returned (.int .i64 (whereF p i l 0 (lineP p i))) ∧ Gr [] w w' := by
  obtain ⟨h1, h2, h3, h4, h5, h6⟩ := (okZ_iff p).1 hok
  obtain ⟨i0, i9⟩ : 0 ≤ i ∧ i < p.l := hi
  have ht : 0 ≤ tabZ p ∧ tabZ p ≤ 8 := by unfold tabZ; omega
  obtain ⟨c0, c1, c2⟩ := rplan_cells p w
  have HG := Lib.hid ((Gr.refl [] w).alloc (Obj.cells #[.int .i64 p.a, .int .i64 p.l, .int .i64 p.s] 138))
  obtain ⟨w1, hw1⟩ : ∃ w1, w1 = w.alloc (Obj.cells #[.int .i64 p.a, .int .i64 p.l, .int .i64 p.s] 138) := ⟨_, rfl⟩
  obtain ⟨pb, hpb⟩ : ∃ pb, pb = w.heap.size := ⟨_, rfl⟩
  rw [← hpb] at c0 c1 c2
  have HT := Lib.hid (fun W => show Calls Tryz.prog 130 #[.agg #[.int .i64 p.a, .int .i64 p.l, .int .i64 p.s]] W _ from rtable_any p hok W)
  obtain ⟨t, htt⟩ : ∃ t, t = tabZ p := ⟨_, rfl⟩
  have HZ := Lib.hid (show lineP p i = p.a + t + i by rw [htt]; rfl)
  have HSP := Lib.hid (show ∀ k : Int, spareP p k = p.a + t + p.l + k from fun k => by rw [htt]; rfl)
  rw [← htt] at HT ht
  have HR := Lib.hid hr
  have HM := Lib.hid hm
  have HB := Lib.hid (And.intro h1 (And.intro h2 (And.intro h4 (And.intro ht (And.intro hl (And.intro h6 (And.intro h3 h5)))))))
  obtain ⟨L, hL⟩ : ∃ L, L = l.length := ⟨_, rfl⟩
  have HL := Lib.hid hL
  have hL64 : L ≤ 64 := by omega
  have HL64 := Lib.hid hL64
  rw [← hL]
  have a1 : IntKind.i64.wrap (p.a + t) = p.a + t := IntWalk.i64_in _ (by omega)
  have a2 : IntKind.i64.wrap (p.a + t + i) = p.a + t + i := IntWalk.i64_in _ (by omega)
  have HII := Lib.hid (And.intro i0 i9)
  clear htt hok hr hm hl h1 h2 h3 h4 h5 h6 ht hL i0 i9
  unfold planV
  go_enter Tryz.func136, Tryz.ntmps136
  go_wp2_with fail
  rw [← hw1] at c0 c1 c2 HG ⊢
  rw [← hpb]
  clear hw1 hpb
  refine (HT.out _).mono ?_
  rintro e w2 ⟨rfl, b2⟩
  have HG2 := Lib.hid (HG.out.nextB b2)
  replace c0 := (Gr.ofBelow (cs := []) b2).cell0 (World.block_lt_of_cell? w1 _ c0) |>.trans c0
  replace c1 := (Gr.ofBelow (cs := []) b2).cell0 (World.block_lt_of_cell? w1 _ c1) |>.trans c1
  clear b2 c2 HG HT
  go_wp2_with fail
  go_loopw [8, 9] (fun z k wr => ∃ (j : Nat) (zz : Int), j ≤ L ∧ k = .int .i64 (j : Int) ∧ z = .int .i64 zz ∧ whereF p i (l.drop j) j zz = whereF p i l 0 (lineP p i) ∧ wr = w2) (fun _ k _ => L - (intOf k).toNat)
  case atStart => exact ⟨0, _, by omega, rfl, rfl, by rw [HZ.out]; rfl, rfl⟩
  case round =>
    obtain ⟨j, zz, hj, rfl, rfl, hz, rfl⟩ := hrel
    by_cases hjL : j < L
    · have ij : (j : Int) < (L : Int) := by omega
      have hjl : j < l.length := by rw [← HL.out]; exact hjL
      obtain ⟨m, hm⟩ : ∃ m, l[j]? = some m := ⟨_, List.getElem?_eq_getElem hjl⟩
      obtain ⟨g, rfl, hg, hcell⟩ := (HR.out.gr0 HG2.out) j m hm
      have hom := HM.out j m hm
      have hdrop : l.drop j = m :: l.drop (j + 1) := by
        rw [List.drop_eq_getElem_cons hjl]
        congr 1
        have := List.getElem?_eq_getElem hjl
        rw [hm] at this
        exact (Option.some.inj this).symm
      rw [hdrop, whereF] at hz
      have HNZ := Lib.hid hz
      obtain ⟨b1, b2, b3, b4, b5, b6, b7, b8⟩ := HB.out
      have a3 : IntKind.i64.wrap (i + 1) = i + 1 := IntWalk.i64_in _ (by have := HII.out; omega)
      have hsp := HSP.out (j : Int)
      by_cases hmi : (m : Int) = i + 1
      · have e1 : ((m : Int) == i + 1) = true := by simpa using hmi
        have a4 : IntKind.i64.wrap (p.a + t + p.l) = p.a + t + p.l := IntWalk.i64_in _ (by omega)
        have a5 : IntKind.i64.wrap (p.a + t + p.l + (j : Int)) = p.a + t + p.l + (j : Int) := IntWalk.i64_in _ (by omega)
        have HNX := Lib.hid (show whereF p i (l.drop (j + 1)) (j + 1) (p.a + t + p.l + (j : Int)) = whereF p i l 0 (lineP p i) by rw [← HNZ.out, if_pos hmi, hsp])
        clear hz hdrop hm hjl hmi hom b1 b2 b3 b4 b5 b6 b7 b8 hsp hg
        go_wp2_with fail
        go_roundw
        case rel => exact ⟨j + 1, _, by omega, by go_num, rfl, HNX.out, trivial⟩
        case measure => simp [intOf]; omega
      · have e1 : ((m : Int) == i + 1) = false := by simpa using hmi
        have HNX := Lib.hid (show whereF p i (l.drop (j + 1)) (j + 1) zz = whereF p i l 0 (lineP p i) by rw [← HNZ.out, if_neg hmi])
        clear hz hdrop hm hjl hmi hom b1 b2 b3 b4 b5 b6 b7 b8 hsp hg
        go_wp2_with fail
        go_roundw
        case rel => exact ⟨j + 1, zz, by omega, by go_num, rfl, HNX.out, trivial⟩
        case measure => simp [intOf]; omega
    · obtain rfl : j = L := by omega
      have ij : ¬ ((j : Int) < (j : Int)) := by omega
      have HE := Lib.hid (show zz = whereF p i l 0 (lineP p i) by
        have e : l.drop j = [] := List.drop_eq_nil_of_le (by rw [← HL.out]; exact Nat.le_refl _)
        rw [e] at hz
        exact hz)
      clear hz
      go_wp2_with fail
      go_ret
      refine ⟨?_, HG2.out⟩
      rw [← HE.out]
      rfl
set_option maxRecDepth 100000 in
set_option maxHeartbeats 8000000 in
theorem rentries_any (h : RefIs w r D) (ho : D.off = false) (hok : okZ p = true) (hfit : p.a + sizeZ p ≤ (D.n : Int)) (hM : Marks p D l) :
    Calls Tryz.prog 135 #[.pointer (some ⟨r.rd, 0, none⟩), planV p] w fun e w' => ∃ po pc, e = .returned (.tuple #[.slice po l.length pc, .int .i64 0]) ∧ RowAt w' po l ∧ Gr [] w w' := by
  obtain ⟨i0, hi, hz0, hz1, hz2⟩ := info_parts infoInt
  have HIN := Lib.hid (And.intro hi (And.intro hz0 (And.intro hz1 hz2)))
  obtain ⟨h1, h2, h3, h4, h5, h6⟩ := (okZ_iff p).1 hok
  have ht : 8 * tabZ p ≥ p.s := by unfold tabZ; omega
  have hsz : sizeZ p = tabZ p + p.l + p.s := by unfold sizeZ; rw [if_pos hok]
  have hnI : D.n ≤ 8192 := h.hi
  obtain ⟨aN, haN⟩ : ∃ aN : Nat, p.a = (aN : Int) := ⟨p.a.toNat, by omega⟩
  obtain ⟨S, hS⟩ : ∃ S : Nat, p.s = (S : Int) := ⟨p.s.toNat, by omega⟩
  obtain ⟨c0, c1, c2⟩ := rplan_cells p w
  have HG := Lib.hid ((Gr.refl [] w).alloc (Obj.cells #[.int .i64 p.a, .int .i64 p.l, .int .i64 p.s] 138))
  obtain ⟨w1, hw1⟩ : ∃ w1, w1 = w.alloc (Obj.cells #[.int .i64 p.a, .int .i64 p.l, .int .i64 p.s] 138) := ⟨_, rfl⟩
  obtain ⟨pb, hpb⟩ : ∃ pb, pb = w.heap.size := ⟨_, rfl⟩
  rw [← hpb, ← hw1] at c0 c1 c2
  rw [hS] at c2
  have HCP := Lib.hid (And.intro c0 (And.intro c1 c2))
  have HLd := Lib.hid (fun (k : Nat) (hk : k < S) W (hW : RefIs W r D) => show Calls Tryz.prog 173 #[.pointer (some ⟨r.rd, 0, none⟩), .int .i64 (8 * p.a + (k : Int))] W fun e w' => e = .returned (.tuple #[.int .u64 (loadV D (8 * p.a.toNat + k) : Int), .int .i64 0]) ∧ W = w' by
    have q := ref_load (8 * p.a + (k : Int)) hW
    rw [show 8 * p.a + (k : Int) = ((8 * p.a.toNat + k : Nat) : Int) by omega, loadP_ok ho (by omega)] at q
    rw [show 8 * p.a + (k : Int) = ((8 * p.a.toNat + k : Nat) : Int) by omega]
    exact q)
  have HW := Lib.hid (show ∀ k : Nat, k < S → IntKind.i64.wrap (8 * p.a) = 8 * p.a ∧ IntKind.i64.wrap (8 * p.a + (k : Int)) = 8 * p.a + (k : Int) from fun k hk => ⟨IntWalk.i64_in _ (by omega), IntWalk.i64_in _ (by omega)⟩)
  have HD := Lib.hid h
  have HM := Lib.hid hM
  have HS := Lib.hid (And.intro hS (And.intro (show S ≤ 64 by omega) (And.intro (show l.length ≤ S by have := hM.len; omega) (And.intro h3 h4))))
  clear h ho hok hfit hM hi hz0 hz1 hz2 h1 h2 h3 h4 h5 h6 ht hsz hnI haN c0 c1 c2
  rw [hS] at hw1
  unfold planV
  rw [hS]
  clear hS
  go_enter Tryz.func135, Tryz.ntmps135
  go_wp2_with fail
  rw [← hw1, ← hpb]
  have HG1 := Lib.hid (show Gr [] w w1 by rw [hw1, ← HS.out.1]; exact HG.out)
  clear hw1 hpb HG
  go_loopw [6, 7, 8] (fun v f k wr => ∃ j : Nat, j ≤ S ∧ k = .int .i64 (j : Int) ∧ f = .bool (decide (l.length < j)) ∧ wr.ownsRow w1.heap.size 3 1 v (l.take j).length ((l.take j).map fun m : Nat => Value.int .i64 (m : Int)) ∧ Gr [] w1 wr) (fun _ _ k _ => S - (intOf k).toNat)
  case atStart => exact ⟨0, by omega, rfl, by rw [decide_eq_false (by omega)], World.ownsRow_nil _ _ _ _, Gr.refl _ _⟩
  case round =>
    obtain ⟨j, hj, rfl, rfl, hown, g⟩ := hrel
    have c0 := (g.cell0 (World.block_lt_of_cell? w1 _ HCP.out.1)).trans HCP.out.1
    have c1 := (g.cell0 (World.block_lt_of_cell? w1 _ HCP.out.2.1)).trans HCP.out.2.1
    have c2 := (g.cell0 (World.block_lt_of_cell? w1 _ HCP.out.2.2)).trans HCP.out.2.2
    have HGR := Lib.hid (And.intro hown g)
    have hS64 : S ≤ 64 := HS.out.2.1
    by_cases hjS : j < S
    · have ij : (j : Int) < (S : Int) := by omega
      obtain ⟨i1, i2⟩ := HW.out j hjS
      have HLj := Lib.hid (HLd.out j hjS wr ((HD.out.gr0 HG1.out).gr0 g))
      by_cases hjl : j < l.length
      · obtain ⟨m, hm⟩ : ∃ m, l[j]? = some m := ⟨_, List.getElem?_eq_getElem hjl⟩
        obtain ⟨hld, hm0, hmb, hmo⟩ := HM.out.each j m hm
        have hgv : guardN m < 18446744073709551616 := guardN_lt m (by omega)
        have hlow : guardN m % 281474976710656 = m := low_guard hmb
        have HGd := Lib.hid (fun W => rguard m W (by omega))
        rw [hld] at HLj
        obtain ⟨v, hv⟩ : ∃ v, v = guardN m := ⟨_, rfl⟩
        rw [← hv] at HLj HGd hgv hlow
        have z0 : ((v : Int) == 0) = false := by
          have : v ≠ 0 := fun e => by rw [e] at hlow; exact hm0 (by omega)
          simp only [beq_eq_false_iff_ne, ne_eq]
          omega
        have hr : (v : Int) % 281474976710656 = (m : Int) := by omega
        have hf : decide (l.length < j) = false := decide_eq_false (by omega)
        have HTK := Lib.hid (show (l.take (j + 1)).map (fun m : Nat => Value.int .i64 (m : Int)) = (l.take j).map (fun m : Nat => Value.int .i64 (m : Int)) ++ [.int .i64 (m : Int)] ∧ (l.take (j + 1)).length = (l.take j).length + 1 by
          have e : l.take (j + 1) = l.take j ++ [m] := by rw [List.take_add_one, hm]; rfl
          rw [e, List.map_append, List.length_append]
          exact ⟨rfl, rfl⟩)
        have htl : (l.take j).length ≤ 64 := by rw [List.length_take]; have := HS.out; omega
        have HMM := Lib.hid (And.intro hm0 (And.intro hmb hmo))
        have HJL := Lib.hid hjl
        rw [hf]
        generalize (l.take j).map (fun m : Nat => Value.int .i64 (m : Int)) = R at *
        generalize (l.take j).length = N at *
        clear hld hm0 hm hv hf hjl hlow hmb
        go_wp2_with fail
        refine HLj.out.mono ?_
        rintro e w' ⟨rfl, rfl⟩
        go_wp2_with fail
        refine (HGd.out _).mono ?_
        rintro e w2 ⟨rfl, b2⟩
        have g2 := Gr.ofBelow (cs := []) b2
        have HGR2 := Lib.hid (And.intro (own_gr0 HGR.out.1 g2) (HGR.out.2.trans g2))
        have c0 := (g2.cell0 (World.block_lt_of_cell? wr _ c0)).trans c0
        have c1 := (g2.cell0 (World.block_lt_of_cell? wr _ c1)).trans c1
        have c2 := (g2.cell0 (World.block_lt_of_cell? wr _ c2)).trans c2
        have hown := HGR2.out.1
        have hsz := HGR2.out.2.size
        clear b2 g2 g HGR
        obtain ⟨hi, hz0, hz1, hz2⟩ := HIN.out
        have a1 : IntKind.i64.wrap (m : Int) = (m : Int) := IntWalk.i64_in _ (by have := HMM.out.2.1; omega)
        by_cases hd : m = 65535
        · have b1 : ((m : Int) != 65535) = false := by rw [hd]; rfl
          clear hd
          go_wp2_with (at_builtin; refine wpList_append_own _ rfl _ _ 61 rfl w1.heap.size 3 i0 (.int .i64 0) 1 8 Tryz.underlying61 hi hz0 hz1 hz2 rfl (by decide) _ _ _ rfl (hown.alloc _) ⟨w2.heap.size, 0, none⟩ 1 1 [.int .i64 (m : Int)] rfl rfl ?c1 ?c2 ?c3 ?c4 ?c5 ?_)
          case c1 =>
            intro a u ha
            match a, ha with
            | 0, ha => simp at ha; subst ha; simp [Addr.add]
          case c2 => intro u hu; simp at hu; subst hu; rfl
          case c3 => unfold maxLen; omega
          case c4 => omega
          case c5 => simp; omega
          intro v' w3 hown3 hgrow _
          have HNX := Lib.hid (show w3.ownsRow w1.heap.size 3 1 v' (l.take (j + 1)).length ((l.take (j + 1)).map fun m : Nat => Value.int .i64 (m : Int)) ∧ Gr [] w1 w3 from by
            refine ⟨?_, ?_⟩
            · rw [HTK.out.1, HTK.out.2]
              exact hown3
            · exact ((HGR2.out.2.alloc _).grown hgrow (fun x hx => .inr (hown.lt x hx).1)))
          clear hown3 hgrow hown
          go_wp2_with fail
          go_roundw
          case rel => exact ⟨j + 1, by omega, by go_num, by rw [decide_eq_false (show ¬ l.length < j + 1 by have := HJL.out; omega)], HNX.out.1, HNX.out.2⟩
          case measure => simp [intOf]; omega
        · have b1 : ((m : Int) != 65535) = true := by simp only [bne_iff_ne, ne_eq]; omega
          have hml : (m : Int) ≤ p.l := by have := HMM.out.2.2; omega
          have b2 : ¬ ((m : Int) < 1) := by have := HMM.out.1; omega
          have b3 : ¬ (p.l < (m : Int)) := by omega
          have a2 : IntKind.u64.wrap p.l = p.l := IntWalk.u64_in _ (by have := HS.out.2.2.2; omega)
          clear hml
          go_wp2_with (at_builtin; refine wpList_append_own _ rfl _ _ 61 rfl w1.heap.size 3 i0 (.int .i64 0) 1 8 Tryz.underlying61 hi hz0 hz1 hz2 rfl (by decide) _ _ _ rfl (hown.alloc _) ⟨w2.heap.size, 0, none⟩ 1 1 [.int .i64 (m : Int)] rfl rfl ?c1 ?c2 ?c3 ?c4 ?c5 ?_)
          case c1 =>
            intro a u ha
            match a, ha with
            | 0, ha => simp at ha; subst ha; simp [Addr.add]
          case c2 => intro u hu; simp at hu; subst hu; rfl
          case c3 => unfold maxLen; omega
          case c4 => omega
          case c5 => simp; omega
          intro v' w3 hown3 hgrow _
          have HNX := Lib.hid (show w3.ownsRow w1.heap.size 3 1 v' (l.take (j + 1)).length ((l.take (j + 1)).map fun m : Nat => Value.int .i64 (m : Int)) ∧ Gr [] w1 w3 from by
            refine ⟨?_, ?_⟩
            · rw [HTK.out.1, HTK.out.2]
              exact hown3
            · exact ((HGR2.out.2.alloc _).grown hgrow (fun x hx => .inr (hown.lt x hx).1)))
          clear hown3 hgrow hown
          go_wp2_with fail
          go_roundw
          case rel => exact ⟨j + 1, by omega, by go_num, by rw [decide_eq_false (show ¬ l.length < j + 1 by have := HJL.out; omega)], HNX.out.1, HNX.out.2⟩
          case measure => simp [intOf]; omega
      · have hz := HM.out.zero j (by omega) (by have := HS.out.1; omega)
        rw [hz] at HLj
        have HTK := Lib.hid (show l.take (j + 1) = l.take j by rw [List.take_of_length_le (show l.length ≤ j + 1 by omega), List.take_of_length_le (show l.length ≤ j by omega)])
        have HJL := Lib.hid hjl
        clear hz hjl g hown
        generalize decide (l.length < j) = f at *
        go_wp2_with fail
        refine HLj.out.mono ?_
        rintro e w' ⟨rfl, rfl⟩
        go_wp2_with fail
        go_roundw
        case rel => exact ⟨j + 1, by omega, by go_num, by rw [decide_eq_true (show l.length < j + 1 by have := HJL.out; omega)], by rw [HTK.out]; exact HGR.out.1, HGR.out.2⟩
        case measure => simp [intOf]; omega
    · obtain rfl : j = S := by omega
      have ij : ¬ ((j : Int) < (j : Int)) := by omega
      have HTK := Lib.hid (show l.take j = l from List.take_of_length_le HS.out.2.2.1)
      clear g hown
      generalize decide (l.length < j) = f at *
      go_wp2_with fail
      have ho := HGR.out.1
      rw [HTK.out] at ho
      obtain ⟨po, pc, rfl, hrow⟩ := rowAt_of ho
      exact bodyPost_ret (v := .tuple #[.slice po l.length pc, .int .i64 0]) (by simp [results, Tryz.results135, go_sem]) rfl ⟨po, ⟨pc, rfl⟩, hrow, HG1.out.trans HGR.out.2⟩
end
end Go.Proofs.YtjbhallhmnahbaaGreat

/-
  Layer 5: the document's Format.
-/
namespace Go.Proofs.YtjbhallhmnahbaaGreat
open Go.RowKit
set_option linter.unusedVariables false

theorem zeroT_list : zeroT = ⟨(List.replicate 64 (0 : UInt8)).toArray⟩ := by decide +kernel
theorem zero_make (W : World) : (Instr.makeSlice 111 (.int .i64 64) (.int .i64 64)).run Tryz.prog W = .ok (.slice (some ⟨W.heap.size, 0, none⟩) 64 64) (W.alloc (.cells (rowOf (fun _ => .int .u8 0) 64) 5)) :=
  make_run (.int .u8 0) 1 64 64 rfl Tryz.underlying111 infoU8 rfl (by omega) (by omega) W
theorem zero_conv (W : World) : (convert 111 9 (.slice (some ⟨W.heap.size, 0, none⟩) 64 64)).run Tryz.prog (W.alloc (.cells (rowOf (fun _ => .int .u8 0) 64) 5)) = .ok (.string zeroT) (W.alloc (.cells (rowOf (fun _ => .int .u8 0) 64) 5)) := by
  have h := run_convert_bytes_back (P := Tryz.prog) (W.alloc (.cells (rowOf (fun _ => .int .u8 0) 64) 5)) 111 9 5 ⟨W.heap.size, 0, none⟩ 64 (List.replicate 64 (0 : UInt8)) Tryz.underlying111 Tryz.underlying5 Tryz.underlying9 (fun i hi => by
    have hi8 : i < 64 := by simpa using hi
    have e : (W.alloc (.cells (rowOf (fun _ => .int .u8 0) 64) 5)).cell? (Addr.add ⟨W.heap.size, 0, none⟩ i) = (rowOf (fun _ => Value.int .u8 0) 64)[i]? := by
      have := cell_of_row (W.alloc (.cells (rowOf (fun _ => .int .u8 0) 64) 5)) W.heap.size i (rowOf (fun _ => .int .u8 0) 64) 5 (0, 0) (heap_alloc_new W _)
      unfold Addr.add
      split
      · rename_i h0; subst h0; exact this
      · simp [this]
    rw [e, rowOf_get _ _ _ hi8, List.getElem_replicate]
    rfl)
  rw [List.length_replicate, ← zeroT_list] at h
  exact h
section
variable {w : World} {r : RefA} {D : DevS} {p : PlanZ} {c : Nat}
end
end Go.Proofs.YtjbhallhmnahbaaGreat

/-
  The frame of a law's row, the part that is the same for all: arrays of integers opened; facts on the program.
-/
namespace Go.Proofs.YtjbhallhmnahbaaGreat
open Go.ChangeShapes Go.WideShapes Go.ChangeAt Go.RowKit

theorem own_ : ownKnob Tryz.prog.godebug = none := by kernel_rfl
theorem laid_ : laidOutB Tryz.prog = true := by kernel_rfl

end Go.Proofs.YtjbhallhmnahbaaGreat

/-
  Arguments of a law, opened: slices of bools, arrays of bools, arrays of arrays of integers.
-/
namespace Go.Proofs.YtjbhallhmnahbaaGreat
open Go.ChangeShapes Go.WideShapes Go.ChangeAt Go.RowKit Go.Deep

def SlB (w : World) (v : Value) (kl : Nat) (kp : Nat → Bool) : Prop := ∃ ao kc, v = .slice ao kl kc ∧ (∀ j, j < kl → ∃ b o, ao = some ⟨b, o, none⟩ ∧ b < w.heap.size ∧ w.cell? ⟨b, o + j, none⟩ = some (.bool (kp j))) ∧ (∀ j, kl ≤ j → kp j = false) ∧ kl ≤ maxLen ∧ kl ≤ kc ∧ kc ≤ maxLen ∧ (ao = none → kc = 0)
theorem open_bl_raw {H : Type} {enc : TypeId × Value → H} {P : Program} {w : World} {base : Nat} {held : Bool} {t e : TypeId} {cs : List Value} {x : DataW H × List MemPlace} {fuel : Nat}
    (ht : P.underlying t = some (.slice e)) (he : P.underlying e = some .bool) (hc : P.cellsOf e = 1) (h : DataW.trod enc P w base (fun _ => true) held fuel t cs = some x) :
    ∃ v kl kp, cs = [v] ∧ SlB w v kl kp := by
  rcases open_bools ht he hc h with ⟨hcs, hx⟩ | ⟨a, len, cap, B, hcs, hb, hl, hm, hx, hcell⟩
  · exact ⟨_, 0, fun _ => false, hcs, none, 0, rfl, (fun j hj => by omega), (fun _ _ => rfl), Nat.zero_le _, Nat.le_refl _, Nat.zero_le _, fun _ => rfl⟩
  · refine ⟨_, len, fun j => if j < len then B j else false, hcs, some a, cap, rfl, fun j hj => ?_, fun j hj => if_neg (by omega), by omega, hl, hm, fun e => by cases e⟩
    obtain ⟨b, off, spot⟩ := a
    have hspot : spot = none := by simpa [Addr.add] using World.cell?_spot (hcell 0 (by omega))
    subst hspot
    have hc1 := hcell j (by omega)
    rw [add_plain] at hc1
    refine ⟨b, off, rfl, ?_, ?_⟩
    · have := block_lt_of_cell hc1
      exact this
    · dsimp only; rw [hc1, if_pos hj]
end Go.Proofs.YtjbhallhmnahbaaGreat

/-
  Slices of acts (three integers, a word, a text, a list of bools) that come in as an argument of a law, opened.
-/
namespace Go.Proofs.YtjbhallhmnahbaaGreat
open Go.ChangeShapes Go.WideShapes Go.ChangeAt Go.RowKit
set_option linter.unusedVariables false

structure ActL where
  d : Int
  z : Int
  k : Int
  v : Nat
  s : ByteArray
  ao : Option Addr
  kl : Nat
  kc : Nat
  kp : Nat → Bool
def I64 (x : Int) : Prop := -9223372036854775808 ≤ x ∧ x ≤ 9223372036854775807
def ActLIs (w : World) (x : ActL) : Prop :=
  I64 x.d ∧ I64 x.z ∧ I64 x.k ∧ x.v < 18446744073709551616 ∧ x.s.size ≤ maxLen ∧
  (∀ j, j < x.kl → ∃ b o, x.ao = some ⟨b, o, none⟩ ∧ b < w.heap.size ∧ w.cell? ⟨b, o + j, none⟩ = some (.bool (x.kp j))) ∧ x.kl ≤ x.kc ∧ x.kc ≤ maxLen ∧ (x.ao = none → x.kc = 0)
def ActLAt (w : World) (b o : Nat) (x : ActL) : Prop :=
  w.cell? ⟨b, o, none⟩ = some (.int .i64 x.d) ∧ w.cell? ⟨b, o + 1, none⟩ = some (.int .i64 x.z) ∧ w.cell? ⟨b, o + 2, none⟩ = some (.int .i64 x.k) ∧ w.cell? ⟨b, o + 3, none⟩ = some (.int .u64 (x.v : Int)) ∧ w.cell? ⟨b, o + 4, none⟩ = some (.string x.s) ∧ w.cell? ⟨b, o + 5, none⟩ = some (.slice x.ao x.kl x.kc)
def SlL (w : World) (v : Value) : Prop :=
  (∃ ao cap, v = .slice ao 0 cap ∧ (ao = none → cap = 0) ∧ cap ≤ maxLen) ∨
  ∃ b off n cap, ∃ xs : Nat → ActL, v = .slice (some ⟨b, off, none⟩) n cap ∧ 0 < n ∧ n ≤ cap ∧ cap ≤ maxLen ∧ b < w.heap.size ∧ ∀ i, i < n → ActLIs w (xs i) ∧ ActLAt w b (off + i * 6) (xs i)

theorem open_actl {H : Type} {enc : TypeId × Value → H} {P : Program} {w : World} {base : Nat} {held : Bool} {e eb : TypeId} {fs : Array Field} {f0 f1 f2 f3 f4 f5 : Field} {cs : List Value} {x : DataW H × List MemPlace} {fuel : Nat}
    (he : P.underlying e = some (.struct fs)) (h0 : fs[0]? = some f0) (h1 : fs[1]? = some f1) (h2 : fs[2]? = some f2) (h3 : fs[3]? = some f3) (h4 : fs[4]? = some f4) (h5 : fs[5]? = some f5)
    (o0 : f0.offset = 0) (o1 : f1.offset = 1) (o2 : f2.offset = 2) (o3 : f3.offset = 3) (o4 : f4.offset = 4) (o5 : f5.offset = 5)
    (t0 : P.underlying f0.type = some (.int .i64)) (t1 : P.underlying f1.type = some (.int .i64)) (t2 : P.underlying f2.type = some (.int .i64)) (t3 : P.underlying f3.type = some (.int .u64)) (t4 : P.underlying f4.type = some .string) (t5 : P.underlying f5.type = some (.slice eb)) (tb : P.underlying eb = some .bool)
    (c0 : P.cellsOf f0.type = 1) (c1 : P.cellsOf f1.type = 1) (c2 : P.cellsOf f2.type = 1) (c3 : P.cellsOf f3.type = 1) (c4 : P.cellsOf f4.type = 1) (c5 : P.cellsOf f5.type = 1) (cb : P.cellsOf eb = 1)
    (h : DataW.trod enc P w base (fun _ => true) held fuel e cs = some x) :
    ∃ y : ActL, ActLIs w y ∧ cs[0]? = some (.int .i64 y.d) ∧ cs[1]? = some (.int .i64 y.z) ∧ cs[2]? = some (.int .i64 y.k) ∧ cs[3]? = some (.int .u64 (y.v : Int)) ∧ cs[4]? = some (.string y.s) ∧ cs[5]? = some (.slice y.ao y.kl y.kc) := by
  obtain ⟨ys, n, _, _, hl, hy, hi⟩ := DataW.trod_struct he h
  have hsz : 5 < fs.size := (Array.getElem?_eq_some_iff.1 h5).1
  have key : ∀ (i : Nat) (v : Value), (cs.drop i).take 1 = [v] → cs[i]? = some v := fun i v hd => by
    have : (List.take 1 (List.drop i cs))[0]? = some v := by rw [hd]; rfl
    rw [List.getElem?_take_of_lt (by omega), List.getElem?_drop, Nat.add_zero] at this
    exact this
  have r0 := hi 0 f0 h0
  have r1 := hi 1 f1 h1
  have r2 := hi 2 f2 h2
  have r3 := hi 3 f3 h3
  have r4 := hi 4 f4 h4
  have r5 := hi 5 f5 h5
  rw [o0, c0, List.getElem?_eq_getElem (by omega)] at r0
  rw [o1, c1, List.getElem?_eq_getElem (by omega)] at r1
  rw [o2, c2, List.getElem?_eq_getElem (by omega)] at r2
  rw [o3, c3, List.getElem?_eq_getElem (by omega)] at r3
  rw [o4, c4, List.getElem?_eq_getElem (by omega)] at r4
  rw [o5, c5, List.getElem?_eq_getElem (by omega)] at r5
  obtain ⟨d, hd, _, wd⟩ := DataW.trod_int t0 r0
  obtain ⟨z, hz, _, wz⟩ := DataW.trod_int t1 r1
  obtain ⟨k, hk, _, wk⟩ := DataW.trod_int t2 r2
  obtain ⟨v, hv, _, wv⟩ := DataW.trod_int t3 r3
  obtain ⟨s, hs, _, ws⟩ := DataW.trod_string t4 r4
  obtain ⟨kv, kl, kp, hkv, ao, kc, rfl, q1, q2, q3, q4, q5, q6⟩ := open_bl_raw t5 tb cb r5
  obtain ⟨u, rfl, hu⟩ := natU64 wv
  exact ⟨⟨d, z, k, u, s, ao, kl, kc, kp⟩, ⟨bounds_i64 wd, bounds_i64 wz, bounds_i64 wk, hu, ws, q1, q4, q5, q6⟩, key 0 _ hd, key 1 _ hz, key 2 _ hk, key 3 _ hv, key 4 _ hs, key 5 _ hkv⟩

theorem open_actsl {H : Type} {enc : TypeId × Value → H} {P : Program} {w : World} {base : Nat} {held : Bool} {t e eb : TypeId} {fs : Array Field} {f0 f1 f2 f3 f4 f5 : Field} {v : Value} {b0 : Nat} {d : DataW H} {p : List MemPlace}
    (ht : P.underlying t = some (.slice e)) (he : P.underlying e = some (.struct fs)) (h0 : fs[0]? = some f0) (h1 : fs[1]? = some f1) (h2 : fs[2]? = some f2) (h3 : fs[3]? = some f3) (h4 : fs[4]? = some f4) (h5 : fs[5]? = some f5)
    (o0 : f0.offset = 0) (o1 : f1.offset = 1) (o2 : f2.offset = 2) (o3 : f3.offset = 3) (o4 : f4.offset = 4) (o5 : f5.offset = 5)
    (t0 : P.underlying f0.type = some (.int .i64)) (t1 : P.underlying f1.type = some (.int .i64)) (t2 : P.underlying f2.type = some (.int .i64)) (t3 : P.underlying f3.type = some (.int .u64)) (t4 : P.underlying f4.type = some .string) (t5 : P.underlying f5.type = some (.slice eb)) (tb : P.underlying eb = some .bool)
    (c0 : P.cellsOf f0.type = 1) (c1 : P.cellsOf f1.type = 1) (c2 : P.cellsOf f2.type = 1) (c3 : P.cellsOf f3.type = 1) (c4 : P.cellsOf f4.type = 1) (c5 : P.cellsOf f5.type = 1) (cb : P.cellsOf eb = 1) (ce : P.cellsOf e = 6)
    (hv : Value.okWide P w .any b0 t v) (h : DataW.Trod enc P w base (fun _ => true) held t v d p) : SlL w v := by
  obtain ⟨a0, len, cap, rfl⟩ := okWide_slice ht hv
  obtain ⟨fuel, hf⟩ := h
  rcases DataW.trod_slice ht hf with ⟨hcs, _⟩ | ⟨a, len', cap', elems, rest, n, _, hcs, _, hb, hl, hm, hlen, hel, _, _⟩
  · simp [Value.cells] at hcs
    obtain ⟨rfl, rfl, rfl⟩ := hcs
    exact .inl ⟨none, 0, rfl, fun _ => rfl, Nat.zero_le _⟩
  · simp [Value.cells] at hcs
    obtain ⟨rfl, rfl, rfl⟩ := hcs
    by_cases hz : len = 0
    · subst hz
      exact .inl ⟨some a, cap, rfl, (fun e => by cases e), hm⟩
    · have each : ∀ i, i < len → ∃ y : ActL, ActLIs w y ∧ w.cell? ((a.add (i * 6)).add 0) = some (.int .i64 y.d) ∧ w.cell? ((a.add (i * 6)).add 1) = some (.int .i64 y.z) ∧ w.cell? ((a.add (i * 6)).add 2) = some (.int .i64 y.k) ∧ w.cell? ((a.add (i * 6)).add 3) = some (.int .u64 (y.v : Int)) ∧ w.cell? ((a.add (i * 6)).add 4) = some (.string y.s) ∧ w.cell? ((a.add (i * 6)).add 5) = some (.slice y.ao y.kl y.kc) := by
        intro i hi
        have q := hel i hi
        rw [ce, List.getElem?_eq_getElem (by omega), Option.bind_eq_some_iff] at q
        obtain ⟨cs', hc', hy⟩ := q
        obtain ⟨_, _, hc2⟩ := World.cells?_some hc'
        obtain ⟨y, hy1, e0, e1, e2, e3, e4, e5⟩ := open_actl he h0 h1 h2 h3 h4 h5 o0 o1 o2 o3 o4 o5 t0 t1 t2 t3 t4 t5 tb c0 c1 c2 c3 c4 c5 cb hy
        exact ⟨y, hy1, (hc2 0 (by omega)).trans e0, (hc2 1 (by omega)).trans e1, (hc2 2 (by omega)).trans e2, (hc2 3 (by omega)).trans e3, (hc2 4 (by omega)).trans e4, (hc2 5 (by omega)).trans e5⟩
      obtain ⟨b, off, spot⟩ := a
      have hspot : spot = none := by
        obtain ⟨y, _, e0, _⟩ := each 0 (by omega)
        simpa [Addr.add] using World.cell?_spot e0
      subst hspot
      have hcl : ∀ i k, ((⟨b, off, none⟩ : Addr).add (i * 6)).add k = ⟨b, off + i * 6 + k, none⟩ := fun i k => by rw [add_plain, add_plain]
      have each2 : ∀ i, i < len → ∃ y : ActL, ActLIs w y ∧ ActLAt w b (off + i * 6) y := fun i hi => by
        obtain ⟨y, y1, e0, e1, e2, e3, e4, e5⟩ := each i hi
        rw [hcl] at e0 e1 e2 e3 e4 e5
        exact ⟨y, y1, e0, e1, e2, e3, e4, e5⟩
      refine .inr ⟨b, off, len, cap, fun i => if hi : i < len then Classical.choose (each2 i hi) else ⟨0, 0, 0, 0, ⟨#[]⟩, none, 0, 0, fun _ => false⟩, rfl, by omega, hl, hm, ?_, fun i hi => ?_⟩
      · obtain ⟨y, _, e0, _⟩ := each2 0 (by omega)
        exact block_lt_of_cell e0
      · dsimp only
        rw [dif_pos hi]
        exact Classical.choose_spec (each2 i hi)

end Go.Proofs.YtjbhallhmnahbaaGreat

/-
  LinePlays: its acts, opened; what its steps keep.
-/
namespace Go.Proofs.YtjbhallhmnahbaaGreat
open Go.ChangeShapes Go.WideShapes Go.ChangeAt Go.RowKit
set_option linter.unusedVariables false

/-! ### What the steps keep -/
def medS (D : DevS) (l : Nat) : ByteArray := ⟨(medT D l).toArray⟩
theorem medS_size (D : DevS) (l : Nat) : (medS D l).size = 64 := by
  show (medT D l).toArray.size = 64
  rw [List.size_toArray]
  unfold medT
  rw [catL_length]
  rfl
theorem medS_word {D : DevS} (hm : ∀ i, D.med i < 18446744073709551616) (l k : Nat) (hk : k < 8) : wdL (medS D l).data.toList k = D.med (8 * l + k) := by
  show wdL (medT D l) k = _
  refine wdL_all _ (fun n hn => ?_) k _ ?_
  · simp only [List.mem_cons, List.not_mem_nil, or_false] at hn
    rcases hn with rfl | rfl | rfl | rfl | rfl | rfl | rfl | rfl <;> exact hm _
  · rcases (show k = 0 ∨ k = 1 ∨ k = 2 ∨ k = 3 ∨ k = 4 ∨ k = 5 ∨ k = 6 ∨ k = 7 by omega) with rfl | rfl | rfl | rfl | rfl | rfl | rfl | rfl <;> rfl
theorem took_med {D : DevS} (hm : ∀ i, D.med i < 18446744073709551616) {l : Nat} (hl : l < D.n) : tookB D (l : Int) (medS D l) = true :=
  took_of hl (medS_size D l) fun k hk => (medS_word hm l k hk).symm
theorem took_eq {D : DevS} (hm : ∀ i, D.med i < 18446744073709551616) {l : Nat} (hl : l < D.n) {F : ByteArray} (hF : F.size = 64) : tookB D (l : Int) F = ((medS D l).toList == F.toList) := by
  by_cases h : medS D l = F
  · rw [bs_beq_true h, ← h, took_med hm hl]
  · rw [bs_beq_false h]
    have : ∃ k, k < 8 ∧ D.med (8 * l + k) ≠ wdL F.data.toList k := by
      refine Classical.byContradiction fun hn => h (bytes_eq (medS_size D l) hF fun k hk => ?_)
      rw [medS_word hm l k hk]
      exact Classical.byContradiction fun hne => hn ⟨k, hk, hne⟩
    obtain ⟨k, hk, hne⟩ := this
    exact took_not hk hne

end Go.Proofs.YtjbhallhmnahbaaGreat
