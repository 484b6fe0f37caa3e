/-
  PkBl: RhA, RhB, RhC, SpBg.
-/
import Derived.Test.YtjbhallhmnahbaaGreatPkBk
import Derived.Test.YtjbhallhmnahbaaGreatPkAx
import Derived.Test.YtjbhallhmnahbaaGreatPkAa
import Derived.Test.YtjbhallhmnahbaaGreatPkAv
import Derived.Test.YtjbhallhmnahbaaGreatPkAn
import Derived.Test.YtjbhallhmnahbaaGreatPkBe

set_option linter.unusedVariables false

/-
  RingPlays: the document's side: the bank of a plan, a bank's line, the state, a line's slot.
-/
namespace Go.Proofs.YtjbhallhmnahbaaGreat
open Go.RowKit
set_option linter.unusedVariables false

structure OnR (P : PlanR) (D : DevS) (B : BkS) (j : Nat) : Prop where
  live : Live D
  ti : TI (bankR P) (bare D) B
  reg : cntZ (bankR P) B D ((P.l : Int) + 1) 0 = pkN P j
section
variable {w : World} {r : RefA} {D : DevS} {P : PlanR} {B : BkS} {j c : Nat}
set_option maxRecDepth 100000 in
theorem rbank07 (hP : OkR P) (w : World) : Calls Tryz.prog 67 #[planRV P] w fun e w' => e = .returned (planV (bankR P)) ∧ Gr [] w w' := by
  have hl := hP.l2
  have HG := Lib.hid (((Gr.refl [] w).alloc (Obj.cells #[.int .i64 P.a, .int .i64 (P.l : Int), .int .i64 P.s, .int .i64 P.psi] 57)).alloc (Obj.cells #[.int .i64 0, .int .i64 0, .int .i64 0] 138))
  obtain ⟨x, hx⟩ : ∃ x : Int, (P.l : Int) + 2 = x := ⟨_, rfl⟩
  have a1 : IntKind.i64.wrap x = x := IntWalk.i64_in _ (by omega)
  unfold planRV planV bankR
  rw [hx]
  clear hP hl
  go_enter Tryz.func67, Tryz.ntmps67
  go_wp2_with fail
  exact bodyPost_ret (v := .agg #[.int .i64 P.a, .int .i64 x, .int .i64 P.s]) (by simp [results, Tryz.results67, go_sem]) rfl ⟨rfl, ((Gr.refl [] w).alloc _).alloc _⟩
set_option maxRecDepth 100000 in
set_option maxHeartbeats 8000000 in
theorem rline07 {p : PlanZ} (z : Int) (h : RefIs w r D) (hd : Live D) (hT : TI p (bare D) B) (hmb : MB D) (hok : okZ p = true) (hi : inP p z) :
    Calls Tryz.prog 77 #[.pointer (some ⟨r.rd, 0, none⟩), planV p, .int .i64 z] w fun e w' => e = .returned (.tuple #[.string (readR D p B z).1, .int .i64 0]) ∧ Gr [] w w' := by
  obtain ⟨c0, c1, c2⟩ := rplan_cells p w
  have HG := Lib.hid ((Gr.refl [] w).alloc (Obj.cells #[.int .i64 p.a, .int .i64 p.l, .int .i64 p.s] 138))
  obtain ⟨w1, hw1⟩ : ∃ w1, w1 = w.alloc (Obj.cells #[.int .i64 p.a, .int .i64 p.l, .int .i64 p.s] 138) := ⟨_, rfl⟩
  obtain ⟨pb, hpb⟩ : ∃ pb, pb = w.heap.size := ⟨_, rfl⟩
  rw [← hpb, ← hw1] at c0 c1 c2
  rw [← hw1] at HG
  obtain ⟨l0, hp, hln, hl1, hl2⟩ := hT.place hok hi
  obtain ⟨l, hM, hlu, hwh⟩ := hT.marks hd hok hmb
  have hfit : p.a + sizeZ p ≤ (D.n : Int) := hT.fits
  have hln2 : l0 < D.n := hln
  have hrd : readR D p B z = (⟨(getT D l0).toArray⟩, 0) := by
    unfold readR
    rw [if_pos hi, hd.off, hp, Int.toNat_natCast]
    rfl
  rw [hrd]
  have HEn := Lib.hid (show Calls Tryz.prog 135 #[.pointer (some ⟨r.rd, 0, none⟩), .agg #[.int .i64 p.a, .int .i64 p.l, .int .i64 p.s]] w1 _ from rentries_any (h.gr0 HG.out) hd.off hok hfit hM)
  have HWh := Lib.hid (fun (W : World) (po : Option Addr) (pc : Nat) (hr : RowAt W po l) => show Calls Tryz.prog 136 #[.agg #[.int .i64 p.a, .int .i64 p.l, .int .i64 p.s], .slice po l.length pc, .int .i64 z] W _ from rwhere_any z hok hi hM.len (fun j m e => (hM.each j m e).2) hr)
  rw [hwh z hi, hp] at HWh
  have HGt := Lib.hid (fun W (q : RefIs W r D) => rget4_yes r D l0 W q hln2 hd.off (fun x => by unfold loadV; rw [hd.buf]; exact hmb x))
  have HD := Lib.hid h
  obtain ⟨N, hN⟩ : ∃ N, N = l.length := ⟨_, rfl⟩
  rw [← hN] at HEn HWh
  obtain ⟨X, hX⟩ : ∃ X : ByteArray, X = ⟨(getT D l0).toArray⟩ := ⟨_, rfl⟩
  rw [← hX] at HGt
  simp only
  rw [← hX]
  clear h hd hT hmb hok hi hp hln hl1 hl2 hM hlu hwh hfit hln2 hrd hN hX
  unfold planV
  go_enter Tryz.func77, Tryz.ntmps77
  go_wp2_with fail
  rw [← hw1]
  rw [← hpb]
  clear hw1 hpb
  refine HEn.out.mono ?_
  rintro e w2 ⟨po, pc, rfl, hrow, g2⟩
  have HRow := Lib.hid hrow
  replace c0 := (g2.cell0 (World.block_lt_of_cell? w1 _ c0)).trans c0
  replace c1 := (g2.cell0 (World.block_lt_of_cell? w1 _ c1)).trans c1
  replace c2 := (g2.cell0 (World.block_lt_of_cell? w1 _ c2)).trans c2
  have HG2 := Lib.hid (HG.out.trans g2)
  clear hrow g2 HG HEn
  go_wp2_with fail
  refine (HWh.out _ po pc HRow.out).mono ?_
  rintro e w3 ⟨rfl, g3⟩
  have HG3 := Lib.hid (HG2.out.trans g3)
  clear g3 HG2 HRow HWh c0 c1 c2
  go_wp2_with fail
  refine (HGt.out _ (HD.out.gr0 HG3.out)).mono ?_
  rintro e w4 ⟨rfl, g4⟩
  have HG4 := Lib.hid (HG3.out.trans g4)
  clear g4
  go_wp2_with fail
  go_ret2
  exact ⟨rfl, HG4.out⟩
end
end Go.Proofs.YtjbhallhmnahbaaGreat

/-
  RingPlays: the document's side: the state that the register says.
-/
namespace Go.Proofs.YtjbhallhmnahbaaGreat
open Go.RowKit
set_option linter.unusedVariables false

section
variable {w : World} {r : RefA} {D : DevS} {P : PlanR} {B : BkS} {j c : Nat}
theorem pk_parts (hP : OkR P) (j : Nat) (hj : j ≤ 4294967295) : ((pkN P j : Nat) : Int) % 65536 = sAt P.l j ∧ ((pkN P j : Nat) : Int) / 65536 % 65536 = gAt P.l j ∧ ((pkN P j : Nat) : Int) / 4294967296 = (j : Int) ∧ rightS (sAt P.l j) (gAt P.l j) (P.l : Int) := by
  have hr := at_right P.l j hP.l1 hP.l2
  obtain ⟨a1, a2, a3, a4, a5, a6⟩ := hr
  obtain ⟨k1, k2⟩ := pkN_val hP j hj
  rw [k1]
  unfold pkI
  rw [show gAt P.l j % 65536 = gAt P.l j from Int.emod_eq_of_lt a5 (by omega), show sAt P.l j % 65536 = sAt P.l j from Int.emod_eq_of_lt a3 (by omega)]
  obtain ⟨S, hS⟩ : ∃ S, sAt P.l j = S := ⟨_, rfl⟩
  obtain ⟨G, hG⟩ : ∃ G, gAt P.l j = G := ⟨_, rfl⟩
  rw [hS] at a3 a4 ⊢
  rw [hG] at a5 a6 ⊢
  clear hS hG k1 k2
  have s9 : S < 65536 := by omega
  have g9 : G < 65536 := by omega
  refine ⟨?_, ?_, ?_, a1, a2, a3, a4, a5, a6⟩
  · omega
  · omega
  · omega
set_option maxRecDepth 100000 in
set_option maxHeartbeats 8000000 in
theorem rstate07 (hP : OkR P) (h : RefIs w r D) (hO : OnR P D B j) (hmb : MB D) (hj : j ≤ 4294967295) :
    Calls Tryz.prog 33 #[.pointer (some ⟨r.rd, 0, none⟩), planRV P] w fun e w' => e = .returned (.tuple #[.int .i64 (sAt P.l j), .int .i64 (gAt P.l j), .int .u64 (j : Int), .int .i64 0]) ∧ Gr [] w w' := by
  obtain ⟨q1, q2, q3, q4⟩ := pk_parts hP j hj
  have hir := inR P (z := (P.l : Int) + 1) (by omega) (by omega)
  obtain ⟨l0, hp, hln, hl1, hl2⟩ := hO.ti.place hP.ok hir
  have hrd : readR D (bankR P) B ((P.l : Int) + 1) = (⟨(getT D l0).toArray⟩, 0) := by
    unfold readR
    rw [if_pos hir, hO.live.off, hp, Int.toNat_natCast]
    rfl
  have hw0 := live_words hO.live (l := l0) (fun k _ => hmb _) 0 (by omega)
  have hrg := hO.reg
  unfold cntZ at hrg
  rw [hp, Int.toNat_natCast] at hrg
  have HLi := Lib.hid (fun W (q : RefIs W r D) => show Calls Tryz.prog 77 #[.pointer (some ⟨r.rd, 0, none⟩), .agg #[.int .i64 P.a, .int .i64 ((P.l : Int) + 2), .int .i64 P.s], .int .i64 ((P.l : Int) + 1)] W _ from rline07 (p := bankR P) ((P.l : Int) + 1) q hO.live hO.ti hmb hP.ok hir)
  rw [hrd] at HLi
  simp only at HLi
  have hsz := line_size D l0
  obtain ⟨T, hT⟩ : ∃ T : ByteArray, T = ⟨(getT D l0).toArray⟩ := ⟨_, rfl⟩
  rw [← hT] at HLi hw0 hsz
  have hget : getL ((T.extract 0 8).data.toList.take 8) = pkN P j := by
    rw [← hrg, ← hw0]
    unfold wdL
    simp [ByteArray.data_extract, List.take_take]
  have HGe := Lib.hid (fun W => rget_any (T.extract 0 8) W (by rw [ByteArray.size_extract]; unfold maxLen; omega))
  rw [hget] at HGe
  have HBk := Lib.hid (fun W => show Calls Tryz.prog 67 #[.agg #[.int .i64 P.a, .int .i64 (P.l : Int), .int .i64 P.s, .int .i64 P.psi]] W _ from rbank07 hP W)
  have HRi := Lib.hid (fun W => rright_yes (sAt P.l j) (gAt P.l j) (P.l : Int) W q4)
  have HH := Lib.hid h
  have hl2 := hP.l2
  obtain ⟨V, hV⟩ : ∃ V : Int, V = ((pkN P j : Nat) : Int) := ⟨_, rfl⟩
  rw [← hV] at HGe q1 q2 q3
  obtain ⟨S, hS⟩ : ∃ S : Int, S = sAt P.l j := ⟨_, rfl⟩
  obtain ⟨Gg, hGg⟩ : ∃ G : Int, G = gAt P.l j := ⟨_, rfl⟩
  rw [← hS] at HRi q1 q4 ⊢
  rw [← hGg] at HRi q2 q4 ⊢
  have hV0 : 0 ≤ V ∧ V < 18446744073709551616 := by have := (pkN_val hP j hj).2; omega
  obtain ⟨Q, hQ⟩ : ∃ Q : Int, Q = V / 65536 := ⟨_, rfl⟩
  rw [← hQ] at q2
  have t0 : IntKind.u64.wrap (V.tdiv 65536) = Q := by
    rw [Int.tdiv_eq_ediv_of_nonneg hV0.1, ← hQ]
    exact IntWalk.u64_in _ (by omega)
  have t1 : Q.tmod 65536 = Gg := by rw [Int.tmod_eq_emod_of_nonneg (by omega)]; exact q2
  have t2 : V.tmod 65536 = S := by rw [Int.tmod_eq_emod_of_nonneg hV0.1]; exact q1
  have t3 : IntKind.u64.wrap (V.tdiv 4294967296) = (j : Int) := by
    rw [Int.tdiv_eq_ediv_of_nonneg hV0.1, q3]
    exact IntWalk.u64_in _ (by omega)
  have t4 : wrap64 Gg = Gg := by have := q4.2.2.2.2.1; have := q4.2.2.2.2.2; unfold wrap64; omega
  have t5 : wrap64 S = S := by have := q4.2.2.1; have := q4.2.2.2.1; unfold wrap64; omega
  have hS9 : IntKind.i64.wrap S = S := IntWalk.i64_in _ (by have := q4.2.2.1; have := q4.2.2.2.1; omega)
  have hG9 : IntKind.i64.wrap Gg = Gg := IntWalk.i64_in _ (by have := q4.2.2.2.2.1; have := q4.2.2.2.2.2; omega)
  have hw1 : IntKind.i64.wrap ((P.l : Int) + 1) = (P.l : Int) + 1 := IntWalk.i64_in _ (by omega)
  clear hV0 hQ q3 q4 hir hp hln hl1 hrd hw0 hrg hT hget h hO hmb hj hP hV hS hGg
  have HX := Lib.hid (Holds.new w #[.int .i64 P.a, .int .i64 (P.l : Int), .int .i64 P.s, .int .i64 P.psi] 57)
  have HG := Lib.hid ((Gr.refl [] w).alloc (Obj.cells #[.int .i64 P.a, .int .i64 (P.l : Int), .int .i64 P.s, .int .i64 P.psi] 57))
  unfold planRV
  unfold planV bankR at HBk
  simp only at HBk
  go_enter Tryz.func33, Tryz.ntmps33
  go_upto_region 1 with fail
  generalize (w.alloc (Obj.cells #[.int .i64 P.a, .int .i64 (P.l : Int), .int .i64 P.s, .int .i64 P.psi] 57)) = w1 at *
  obtain ⟨pb, hpb⟩ : ∃ pb, w.heap.size = pb := ⟨_, rfl⟩
  rw [hpb] at HX ⊢
  clear hpb
  have c0 := HX.out.cell 0
  have c1 := HX.out.cell 1
  have c2 := HX.out.cell 2
  have c3 := HX.out.cell 3
  go_wp2_with fail
  refine (HBk.out _).mono ?_
  rintro e w2 ⟨rfl, g2⟩
  have HX2 := Lib.hid (And.intro (HX.out.gr0 g2) (HG.out.trans g2))
  clear g2 c0 c1 c2 c3 HX HG HBk
  go_upto_region 2 with fail
  have hb := Holds.new w2 #[.int .i64 P.a, .int .i64 ((P.l : Int) + 2), .int .i64 P.s] 138
  have ga := (Gr.refl [] w2).alloc (Obj.cells #[.int .i64 P.a, .int .i64 ((P.l : Int) + 2), .int .i64 P.s] 138)
  have HX3 := Lib.hid (And.intro (HX2.out.1.gr0 ga) (And.intro (HX2.out.2.trans ga) hb))
  clear hb ga HX2
  generalize (w2.alloc (Obj.cells #[.int .i64 P.a, .int .i64 ((P.l : Int) + 2), .int .i64 P.s] 138)) = w3 at *
  obtain ⟨bb, hbb⟩ : ∃ bb, w2.heap.size = bb := ⟨_, rfl⟩
  rw [hbb] at HX3 ⊢
  clear hbb
  have c1 := HX3.out.1.cell 1
  have b0 := HX3.out.2.2.cell 0
  have b1 := HX3.out.2.2.cell 1
  have b2 := HX3.out.2.2.cell 2
  go_wp2_with fail
  refine (HLi.out _ (HH.out.gr0 HX3.out.2.1)).mono ?_
  rintro e w4 ⟨rfl, g4⟩
  have HX4 := Lib.hid (And.intro (HX3.out.1.gr0 g4) (HX3.out.2.1.trans g4))
  clear g4 c1 b0 b1 b2 HX3 HLi
  go_wp2_with fail
  refine (HGe.out _).mono ?_
  rintro e w5 ⟨rfl, rfl⟩
  have c1 := HX4.out.1.cell 1
  go_wp2_with fail
  refine (HRi.out _).mono ?_
  rintro e w6 ⟨rfl, rfl⟩
  clear c1 hsz
  go_wp2_with fail
  exact bodyPost_ret (v := .tuple #[.int .i64 S, .int .i64 Gg, .int .u64 (j : Int), .int .i64 0]) (by simp [results, Tryz.results33, go_sem]) rfl ⟨rfl, HX4.out.2⟩
end
end Go.Proofs.YtjbhallhmnahbaaGreat

/-
  RingPlays: the document's side: a line's slot, its place, Read.
-/
namespace Go.Proofs.YtjbhallhmnahbaaGreat
open Go.RowKit
set_option linter.unusedVariables false

section
variable {w : World} {r : RefA} {D : DevS} {P : PlanR} {B : BkS} {j c : Nat}
set_option maxRecDepth 100000 in
set_option maxHeartbeats 8000000 in
theorem rslot07 (hP : OkR P) (i : Nat) (hi : i < P.l) (w : World) : Calls Tryz.prog 124 #[.int .i64 (sAt P.l j), .int .i64 (gAt P.l j), .int .i64 (P.l : Int), .int .i64 (i : Int)] w fun e w' => e = .returned (.int .i64 (slotJ P j i)) ∧ Gr [] w w' := by
  have hr := at_right P.l j hP.l1 hP.l2
  obtain ⟨s, hs⟩ : ∃ s : Nat, sAt P.l j = (s : Int) := ⟨(sAt P.l j).toNat, by have := hr.2.2.1; omega⟩
  obtain ⟨g, hg⟩ : ∃ g : Nat, gAt P.l j = (g : Int) := ⟨(gAt P.l j).toNat, by have := hr.2.2.2.2.1; omega⟩
  rw [hs, hg] at hr
  obtain ⟨b0, b1, b2⟩ := slot_ok s g P.l i hr (by omega) (by omega)
  have hsl : slotJ P j i = slotI s g P.l i := by unfold slotJ; rw [hs, hg]
  rw [hs, hg, hsl]
  obtain ⟨k0, hk0⟩ : ∃ k : Nat, slotI s g P.l i = (k : Int) := ⟨(slotI s g P.l i).toNat, by omega⟩
  rw [hk0] at b0 b1 b2 ⊢
  have huniq : ∀ p : Nat, p ≤ P.l → occ s g P.l p = (i : Int) → p = k0 := by
    intro p hp he
    unfold occ at he
    by_cases c : (p : Int) = g
    · rw [if_pos c] at he; omega
    · rw [if_neg c] at he
      have := (slot_occ s g P.l p hr (by omega) (by omega) c).2.2
      rw [he, hk0] at this
      omega
  have HSL := Lib.hid (fun W => rslots s g P.l W hr)
  have HU := Lib.hid huniq
  have HB := Lib.hid (And.intro b1 b2)
  have hPl : P.l ≤ 1024 := hP.l2
  obtain ⟨L, hL⟩ : ∃ L, P.l = L := ⟨_, rfl⟩
  rw [hL] at HSL HU HB hPl hi ⊢
  obtain ⟨N1, hN1⟩ : ∃ N1 : Nat, N1 = L + 1 := ⟨_, rfl⟩
  have HN1 := Lib.hid hN1
  rw [← hN1] at HSL
  clear hP hs hg hr b0 b1 b2 hsl hk0 huniq hL hN1
  go_enter Tryz.func124, Tryz.ntmps124
  go_wp2_with fail
  refine (HSL.out _).mono ?_
  rintro e w1 ⟨xs, rfl, hown, hrow, hb⟩
  have HG := Lib.hid (Gr.ofBelow (cs := []) hb)
  have HO := Lib.hid (And.intro hown hrow)
  clear hown hrow hb HSL
  go_wp2_with fail
  go_loopw [10] (fun z wr => ∃ k : Nat, k ≤ k0 ∧ z = .int .i64 (k : Int) ∧ wr = w1) (fun z _ => k0 - (intOf z).toNat)
  case atStart => exact ⟨0, by omega, rfl, rfl⟩
  case round =>
    obtain ⟨k, hk, rfl, rfl⟩ := hrel
    have hkL : k ≤ L := by have := HB.out.1; omega
    have hc := HO.out.1.cellAt k (by have := HO.out.2.1; have := HN1.out; omega)
    rw [HO.out.2.2 k hkL] at hc
    have ik : (k : Int) < (N1 : Int) := by have := HN1.out; omega
    have i0 : (0 : Int) ≤ (k : Int) := by omega
    by_cases c : k = k0
    · subst c
      rw [HB.out.2] at hc
      go_wp2_with fail
      go_ret
      exact ⟨rfl, HG.out⟩
    · obtain ⟨o, ho⟩ : ∃ o : Int, occ s g L k = o := ⟨_, rfl⟩
      rw [ho] at hc
      have hne : ¬ o = (i : Int) := fun e => c (HU.out k hkL (by rw [ho, e]))
      have hbe : (o == (i : Int)) = false := by simpa using hne
      have hw : IntKind.i64.wrap ((k : Int) + 1) = (k : Int) + 1 := IntWalk.i64_in _ (by omega)
      have HKC := Lib.hid c
      clear ho c
      go_wp2_with fail
      go_roundw
      case rel => exact ⟨k + 1, by have := HKC.out; omega, by go_num, trivial⟩
      case measure => have := HKC.out; simp [intOf]; omega
set_option maxRecDepth 100000 in
set_option maxHeartbeats 8000000 in
theorem rwhere07 (hP : OkR P) (h : RefIs w r D) (hO : OnR P D B j) (hmb : MB D) (hj : j ≤ 4294967295) (i : Nat) (hi : i < P.l) :
    Calls Tryz.prog 76 #[.pointer (some ⟨r.rd, 0, none⟩), planRV P, .int .i64 (i : Int)] w fun e w' => e = .returned (.tuple #[.int .i64 (placeP (bankR P) B (slotJ P j i)), .int .i64 0]) ∧ Gr [] w w' := by
  have hz : inP (bankR P) (slotJ P j i) := by
    rw [slotJ_N P j i hP.l1]
    have := slotN_le (j := j) (i := i) hP.l1
    exact inR P (by omega) (by omega)
  obtain ⟨l, hM, hlu, hwh⟩ := hO.ti.marks hO.live hP.ok hmb
  have hfit : (bankR P).a + sizeZ (bankR P) ≤ (D.n : Int) := hO.ti.fits
  have HSt := Lib.hid (fun W (q : RefIs W r D) => show Calls Tryz.prog 33 #[.pointer (some ⟨r.rd, 0, none⟩), .agg #[.int .i64 P.a, .int .i64 (P.l : Int), .int .i64 P.s, .int .i64 P.psi]] W _ from rstate07 hP q hO hmb hj)
  have HBk := Lib.hid (fun W => show Calls Tryz.prog 67 #[.agg #[.int .i64 P.a, .int .i64 (P.l : Int), .int .i64 P.s, .int .i64 P.psi]] W _ from rbank07 hP W)
  have HEn := Lib.hid (fun W (q : RefIs W r D) => show Calls Tryz.prog 135 #[.pointer (some ⟨r.rd, 0, none⟩), .agg #[.int .i64 P.a, .int .i64 ((P.l : Int) + 2), .int .i64 P.s]] W _ from rentries_any (p := bankR P) q hO.live.off hP.ok hfit hM)
  have HSl := Lib.hid (fun W => rslot07 (j := j) hP i hi W)
  have HWh := Lib.hid (fun (W : World) (po : Option Addr) (pc : Nat) (hr : RowAt W po l) => show Calls Tryz.prog 136 #[.agg #[.int .i64 P.a, .int .i64 ((P.l : Int) + 2), .int .i64 P.s], .slice po l.length pc, .int .i64 (slotJ P j i)] W _ from rwhere_any (p := bankR P) (slotJ P j i) hP.ok hz hM.len (fun j m e => (hM.each j m e).2) hr)
  rw [hwh _ hz] at HWh
  obtain ⟨N, hN⟩ : ∃ N, N = l.length := ⟨_, rfl⟩
  rw [← hN] at HEn HWh
  have HH := Lib.hid h
  have HX := Lib.hid (Holds.new w #[.int .i64 P.a, .int .i64 (P.l : Int), .int .i64 P.s, .int .i64 P.psi] 57)
  have HG := Lib.hid ((Gr.refl [] w).alloc (Obj.cells #[.int .i64 P.a, .int .i64 (P.l : Int), .int .i64 P.s, .int .i64 P.psi] 57))
  obtain ⟨S, hS⟩ : ∃ S : Int, sAt P.l j = S := ⟨_, rfl⟩
  obtain ⟨Gg, hGg⟩ : ∃ G : Int, gAt P.l j = G := ⟨_, rfl⟩
  obtain ⟨K, hK⟩ : ∃ K : Int, slotJ P j i = K := ⟨_, rfl⟩
  obtain ⟨Y, hY⟩ : ∃ Y : Int, placeP (bankR P) B K = Y := ⟨_, rfl⟩
  rw [hS, hGg] at HSt HSl
  rw [hK] at HSl HWh ⊢
  rw [hY] at HWh ⊢
  clear hN hz hM hlu hwh hfit hO hmb hj hP h hS hGg hK hY hi
  unfold planRV
  unfold planV bankR at HBk
  simp only at HBk
  go_enter Tryz.func76, Tryz.ntmps76
  go_upto_region 1 with fail
  generalize (w.alloc (Obj.cells #[.int .i64 P.a, .int .i64 (P.l : Int), .int .i64 P.s, .int .i64 P.psi] 57)) = w1 at *
  obtain ⟨pb, hpb⟩ : ∃ pb, w.heap.size = pb := ⟨_, rfl⟩
  rw [hpb] at HX ⊢
  clear hpb
  have c0 := HX.out.cell 0
  have c1 := HX.out.cell 1
  have c2 := HX.out.cell 2
  have c3 := HX.out.cell 3
  go_wp2_with fail
  refine (HSt.out _ (HH.out.gr0 HG.out)).mono ?_
  rintro e w2 ⟨rfl, g2⟩
  have HX2 := Lib.hid (And.intro (HX.out.gr0 g2) (HG.out.trans g2))
  clear g2 c0 c1 c2 c3 HX HG HSt
  have c0 := HX2.out.1.cell 0
  have c1 := HX2.out.1.cell 1
  have c2 := HX2.out.1.cell 2
  have c3 := HX2.out.1.cell 3
  go_wp2_with fail
  refine (HBk.out _).mono ?_
  rintro e w3 ⟨rfl, g3⟩
  have HX3 := Lib.hid (And.intro (HX2.out.1.gr0 g3) (HX2.out.2.trans g3))
  clear g3 c0 c1 c2 c3 HX2 HBk
  go_upto_region 5 with fail
  have hb := Holds.new w3 #[.int .i64 P.a, .int .i64 ((P.l : Int) + 2), .int .i64 P.s] 138
  have ga := (Gr.refl [] w3).alloc (Obj.cells #[.int .i64 P.a, .int .i64 ((P.l : Int) + 2), .int .i64 P.s] 138)
  have HX4 := Lib.hid (And.intro (HX3.out.1.gr0 ga) (And.intro (HX3.out.2.trans ga) hb))
  clear hb ga HX3
  generalize (w3.alloc (Obj.cells #[.int .i64 P.a, .int .i64 ((P.l : Int) + 2), .int .i64 P.s] 138)) = w4 at *
  obtain ⟨bb, hbb⟩ : ∃ bb, w3.heap.size = bb := ⟨_, rfl⟩
  rw [hbb] at HX4 ⊢
  clear hbb
  have b0 := HX4.out.2.2.cell 0
  have b1 := HX4.out.2.2.cell 1
  have b2 := HX4.out.2.2.cell 2
  go_wp2_with fail
  refine (HEn.out _ (HH.out.gr0 HX4.out.2.1)).mono ?_
  rintro e w5 ⟨po, pc, rfl, hrow, g5⟩
  have HX5 := Lib.hid (And.intro (HX4.out.1.gr0 g5) (And.intro (HX4.out.2.1.trans g5) (And.intro (HX4.out.2.2.gr0 g5) hrow)))
  clear g5 b0 b1 b2 hrow HX4 HEn
  have c1 := HX5.out.1.cell 1
  go_wp2_with fail
  refine (HSl.out _).mono ?_
  rintro e w6 ⟨rfl, g6⟩
  have HX6 := Lib.hid (And.intro (HX5.out.2.1.trans g6) (And.intro (HX5.out.2.2.1.gr0 g6) (RowAt.gr0 HX5.out.2.2.2 g6)))
  clear g6 c1 HX5 HSl
  have b0 := HX6.out.2.1.cell 0
  have b1 := HX6.out.2.1.cell 1
  have b2 := HX6.out.2.1.cell 2
  go_wp2_with fail
  refine (HWh.out _ po pc HX6.out.2.2).mono ?_
  rintro e w7 ⟨rfl, g7⟩
  have HX7 := Lib.hid (HX6.out.1.trans g7)
  clear g7 b0 b1 b2
  go_wp2_with fail
  go_ret2
  exact ⟨rfl, HX7.out⟩
set_option maxRecDepth 100000 in
set_option maxHeartbeats 8000000 in
theorem rread07_in (hP : OkR P) (h : RefIs w r D) (hO : OnR P D B j) (hmb : MB D) (hj : j ≤ 4294967295) (i : Nat) (hi : i < P.l) :
    Calls Tryz.prog 66 #[.pointer (some ⟨r.rd, 0, none⟩), planRV P, .int .i64 (i : Int)] w fun e w' => e = .returned (.tuple #[.string (readR D (bankR P) B (slotJ P j i)).1, .int .i64 0]) ∧ Gr [] w w' := by
  have hz : inP (bankR P) (slotJ P j i) := by
    rw [slotJ_N P j i hP.l1]
    have := slotN_le (j := j) (i := i) hP.l1
    exact inR P (by omega) (by omega)
  obtain ⟨l0, hp, hln, hl1, hl2⟩ := hO.ti.place hP.ok hz
  have hln2 : l0 < D.n := hln
  have hrd : readR D (bankR P) B (slotJ P j i) = (⟨(getT D l0).toArray⟩, 0) := by
    unfold readR
    rw [if_pos hz, hO.live.off, hp, Int.toNat_natCast]
    rfl
  rw [hrd]
  have HWh := Lib.hid (fun W (q : RefIs W r D) => show Calls Tryz.prog 76 #[.pointer (some ⟨r.rd, 0, none⟩), .agg #[.int .i64 P.a, .int .i64 (P.l : Int), .int .i64 P.s, .int .i64 P.psi], .int .i64 (i : Int)] W _ from rwhere07 hP q hO hmb hj i hi)
  rw [hp] at HWh
  have HGt := Lib.hid (fun W (q : RefIs W r D) => rget4_yes r D l0 W q hln2 hO.live.off (fun x => by unfold loadV; rw [hO.live.buf]; exact hmb x))
  obtain ⟨T, hT⟩ : ∃ T : ByteArray, T = ⟨(getT D l0).toArray⟩ := ⟨_, rfl⟩
  rw [← hT] at HGt
  simp only
  rw [← hT]
  have HH := Lib.hid h
  have HX := Lib.hid (Holds.new w #[.int .i64 P.a, .int .i64 (P.l : Int), .int .i64 P.s, .int .i64 P.psi] 57)
  have HG := Lib.hid ((Gr.refl [] w).alloc (Obj.cells #[.int .i64 P.a, .int .i64 (P.l : Int), .int .i64 P.s, .int .i64 P.psi] 57))
  have ik1 : ¬ ((i : Int) < 0) := by omega
  have ik2 : ¬ ((P.l : Int) ≤ (i : Int)) := by omega
  clear h hO hmb hj hP hi hz hp hln hln2 hrd hT
  unfold planRV
  go_enter Tryz.func66, Tryz.ntmps66
  go_upto_region 1 with fail
  generalize (w.alloc (Obj.cells #[.int .i64 P.a, .int .i64 (P.l : Int), .int .i64 P.s, .int .i64 P.psi] 57)) = w1 at *
  obtain ⟨pb, hpb⟩ : ∃ pb, w.heap.size = pb := ⟨_, rfl⟩
  rw [hpb] at HX ⊢
  clear hpb
  have c0 := HX.out.cell 0
  have c1 := HX.out.cell 1
  have c2 := HX.out.cell 2
  have c3 := HX.out.cell 3
  go_wp2_with fail
  refine (HWh.out _ (HH.out.gr0 HG.out)).mono ?_
  rintro e w2 ⟨rfl, g2⟩
  have HG2 := Lib.hid (HG.out.trans g2)
  clear g2 c0 c1 c2 c3 HX HG HWh
  go_wp2_with fail
  refine (HGt.out _ (HH.out.gr0 HG2.out)).mono ?_
  rintro e w3 ⟨rfl, g3⟩
  have HG3 := Lib.hid (HG2.out.trans g3)
  clear g3
  go_wp2_with fail
  go_ret2
  exact ⟨rfl, HG3.out⟩
end
end Go.Proofs.YtjbhallhmnahbaaGreat

/-
  SparePlays: the state between two acts.
-/
namespace Go.Proofs.YtjbhallhmnahbaaGreat
open Go.RowKit
set_option linter.unusedVariables false

structure SPF (w : World) (a : DevA) (r : RefA) (pb : Nat) : Prop where
  ar : ∀ x ∈ a.all, x ∉ r.all
  pa : pb ∉ a.all
  pr : pb ∉ r.all
  la : ∀ x ∈ a.all, w.heap.size ≤ x
  lr : ∀ x ∈ r.all, w.heap.size ≤ x
structure SPD (w wr : World) (a : DevA) (r : RefA) (P : PlanZ) (pb : Nat) (D : DevS) (c : Nat) : Prop where
  dev : DevIs wr a D
  ref : RefIs wr r D
  bd : Bd D c
  pl : Holds wr pb #[.int .i64 P.a, .int .i64 P.l, .int .i64 P.s] 138
  gr : Gr [] w wr
structure SPQ (w wr : World) (a : DevA) (r : RefA) (P : PlanZ) (pb : Nat) (q : BkA) (B : BkS) (m : Nat) : Prop where
  bk : BkIs wr q a P B m
  qr : ∀ x ∈ q.all, x ∉ r.all
  qn : ∀ x ∈ q.all, w.heap.size ≤ x
  qp : pb ∉ q.all
section
variable {w wr w5 w6 : World} {a : DevA} {r : RefA} {P : PlanZ} {pb : Nat} {D D' : DevS} {B B' : BkS} {q : BkA} {m c : Nat}
theorem SPD.fu (h : SPD w wr a r P pb D c) : Fu D c := ⟨h.bd, h.dev.ok.fu⟩
theorem SPD.gr0 (h : SPD w wr a r P pb D c) (g : Gr [] wr w5) : SPD w w5 a r P pb D c := ⟨h.dev.gr0 g, h.ref.gr0 g, h.bd, h.pl.gr0 g, h.gr.trans g⟩
theorem SPQ.gr0 (h : SPQ w wr a r P pb q B m) (g : Gr [] wr w5) : SPQ w w5 a r P pb q B m := ⟨h.bk.gr0 g, h.qr, h.qn, h.qp⟩
theorem SPD.more (h : SPD w wr a r P pb D c) {c' : Nat} (hc : c ≤ c') : SPD w wr a r P pb D c' := ⟨h.dev, h.ref, h.bd.mono hc, h.pl, h.gr⟩
theorem SPQ.more (h : SPQ w wr a r P pb q B m) {m' : Nat} (hm : m ≤ m') : SPQ w wr a r P pb q B m' := ⟨h.bk.moreN _ hm, h.qr, h.qn, h.qp⟩
theorem SPD.after (h : SPD w wr a r P pb D c) (F : SPF w a r pb) (hq : SPQ w wr a r P pb q B m) (d5 : DevIs w5 a D') (g5 : Gr (q.all ++ a.all) wr w5) (r6 : RefIs w6 r D') (g6 : Gr r.all w5 w6) {c' : Nat} (hb : Bd D' c') : SPD w w6 a r P pb D' c' :=
  ⟨d5.gr g6 (fun x hx => F.ar x hx), r6, hb, (h.pl.gr g5 (by simp only [List.mem_append, not_or]; exact ⟨hq.qp, F.pa⟩)).gr g6 F.pr,
   (h.gr.nextN g5 fun x hx => by
     rcases List.mem_append.1 hx with hx | hx
     · exact .inr (hq.qn x hx)
     · exact .inr (F.la x hx)).nextN g6 fun x hx => .inr (F.lr x hx)⟩
theorem SPD.mid (h : SPD w wr a r P pb D c) (F : SPF w a r pb) (hq : SPQ w wr a r P pb q B m) (g5 : Gr (q.all ++ a.all) wr w5) : RefIs w5 r D ∧ Gr [] w w5 :=
  ⟨h.ref.gr g5 (fun x hx hy => by
    rcases List.mem_append.1 hy with hy | hy
    · exact hq.qr x hy hx
    · exact F.ar x hy hx), h.gr.nextN g5 fun x hx => by
     rcases List.mem_append.1 hx with hx | hx
     · exact .inr (hq.qn x hx)
     · exact .inr (F.la x hx)⟩
theorem SPQ.after (hq : SPQ w wr a r P pb q B m) (k5 : BkIs w5 q a P B' m) (g6 : Gr r.all w5 w6) {m' : Nat} (hm : m ≤ m') : SPQ w w6 a r P pb q B' m' :=
  ⟨(k5.gr g6 hq.qr).moreN _ hm, hq.qr, hq.qn, hq.qp⟩
theorem SPD.moved (h : SPD w wr a r P pb D c) (F : SPF w a r pb) (d5 : DevIs w5 a D') (g5 : Gr a.all wr w5) (r6 : RefIs w6 r D') (g6 : Gr r.all w5 w6) {c' : Nat} (hb : Bd D' c') : SPD w w6 a r P pb D' c' :=
  ⟨d5.gr g6 (fun x hx => F.ar x hx), r6, hb, (h.pl.gr g5 F.pa).gr g6 F.pr, (h.gr.nextN g5 fun x hx => .inr (F.la x hx)).nextN g6 fun x hx => .inr (F.lr x hx)⟩
theorem SPQ.moved (hq : SPQ w wr a r P pb q B m) (g5 : Gr a.all wr w5) (g6 : Gr r.all w5 w6) : SPQ w w6 a r P pb q B m :=
  ⟨(hq.bk.grD g5).gr g6 hq.qr, hq.qr, hq.qn, hq.qp⟩
theorem boot_bd {L : List Nat} {kp : Nat → Bool} (h : Bd D c) : Bd (bootD D L kp) (c + 1) := Bd.mono (Bnd.boot (c := c) h L kp) (Nat.le_refl _)
end
end Go.Proofs.YtjbhallhmnahbaaGreat
