/-
  RingPlays: the document's Write.
-/
import Derived.Test.YtjbhallhmnahbaaGreatPkBm
import Derived.Test.YtjbhallhmnahbaaGreatPkBe

namespace Go.Proofs.YtjbhallhmnahbaaGreat
open Go.RowKit
set_option linter.unusedVariables false

def RqPost (w : World) (r : RefA) (P : PlanR) (rq cc : Nat) (X : Int × DevS × BkS × Nat × Nat) (e : Ending) (w' : World) : Prop :=
  e = .returned (.int .i64 X.1) ∧ RefIs w' r X.2.1 ∧ Fu X.2.1 (cc + 4200) ∧ Holds w' rq (rqRow P X.2.2.2.2) 75 ∧ Gr (rq :: r.all) w w'
section
variable {w w' : World} {r : RefA} {D : DevS} {P : PlanR} {B : BkS} {j c cc rq : Nat}
set_option maxRecDepth 100000 in
set_option maxHeartbeats 16000000 in
theorem rwrite07 (i : Nat) (s : ByteArray) (hs : s.size = 64) (hi : i < P.l) (hP : OkR P) (h : RefIs w r D) (hq : Holds w rq (rqRow P c) 75) (hrq : rq ∉ r.all) (hO : OnR P D B j) (hbb : MBB D) (hb : Fu D cc) (hcc : cc < 400000) (hj : j < 4294967294) (hc9 : c ≤ 65536) :
    Calls Tryz.prog 63 #[.pointer (some ⟨r.rd, 0, none⟩), .pointer (some ⟨rq, 0, none⟩), .int .i64 (i : Int), .string s, .int .i64 (-1), .int .u64 0] w (RqPost w r P rq cc (regZ P i (fun z => writeS (bankR P) z s) D B j c)) := by
  obtain ⟨X, hX⟩ : ∃ X, X = regZ P i (fun z => writeS (bankR P) z s) D B j c := ⟨_, rfl⟩
  rw [← hX]
  have HX := Lib.hid hX
  have HP := Lib.hid (And.intro hP hi)
  have HBk := Lib.hid (fun W => show Calls Tryz.prog 67 #[.agg #[.int .i64 P.a, .int .i64 (P.l : Int), .int .i64 P.s, .int .i64 P.psi]] W _ from rbank07 hP W)
  have HMv := Lib.hid (fun W (q1 : RefIs W r D) (q2 : Holds W rq (rqRow P c) 75) => rmove07 hP q1 q2 hrq hO hbb hb (by omega) (by omega))
  have HMr := Lib.hid (hO.move hP hbb.1 hbb (by omega))
  have HOn0 := Lib.hid (And.intro hO hbb)
  have HJ := Lib.hid hj
  have HCC := Lib.hid hcc
  have HCP := Lib.hid hc9
  have HSEP := Lib.hid hrq
  have HD := Lib.hid (And.intro h (And.intro hq hb))
  have q0 := hq.cell 0
  have q1 := hq.cell 1
  have q2 := hq.cell 2
  have q3 := hq.cell 3
  unfold rqRow at q0 q1 q2 q3
  have ik1 : ¬ ((i : Int) < 0) := by omega
  have ik2 : ¬ ((P.l : Int) ≤ (i : Int)) := by omega
  have HSZ := Lib.hid (show s.size ≤ maxLen by rw [hs]; unfold maxLen; omega)
  have hs64 : (s.size : Int) = 64 := by omega
  unfold planV bankR at HBk
  simp only at HBk
  clear hX hP h hq hrq hO hbb hb hcc hj hc9 hi hs
  go_enter Tryz.func63, Tryz.ntmps63
  go_upto_region 4 with fail
  have hx := Holds.new w #[.int .i64 P.a, .int .i64 (P.l : Int), .int .i64 P.s, .int .i64 P.psi] 57
  have ga := (Gr.refl [] w).alloc (Obj.cells #[.int .i64 P.a, .int .i64 (P.l : Int), .int .i64 P.s, .int .i64 P.psi] 57)
  have H1 := Lib.hid (And.intro (HD.out.1.gr0 ga) (And.intro (HD.out.2.1.gr0 ga) (And.intro ga hx)))
  have HPB := Lib.hid (show w.heap.size ∉ rq :: r.all from fun e => by
    rcases List.mem_cons.1 e with e | e
    · have := HD.out.2.1.lt; omega
    · have := HD.out.1.lt _ e; omega)
  clear hx ga q0 q1 q2 q3
  generalize (w.alloc (Obj.cells #[.int .i64 P.a, .int .i64 (P.l : Int), .int .i64 P.s, .int .i64 P.psi] 57)) = w1 at *
  obtain ⟨pb, hpb⟩ : ∃ pb, w.heap.size = pb := ⟨_, rfl⟩
  rw [hpb] at H1 HPB ⊢
  clear hpb
  have c1 := H1.out.2.2.2.cell 1
  have c3 := H1.out.2.2.2.cell 3
  have q4 : w1.cell? ⟨rq, 4, none⟩ = some (.int .i64 (c : Int)) := H1.out.2.1.cell 4
  by_cases hc : P.psi ≤ (c : Int)
  · skip
    go_wp2_with fail
    go_quiet (fail)
    have gq : Gr [] w1 (w1.drewN nq) := (Gr.refl [] w1).drewN nq
    have H2 := Lib.hid (And.intro (H1.out.1.gr0 gq) (And.intro (H1.out.2.1.gr0 gq) (And.intro (H1.out.2.2.1.trans gq) (H1.out.2.2.2.gr0 gq))))
    clear gq c1 c3 q4 H1
    generalize w1.drewN nq = w2 at *
    go_wp2_with fail
    refine (HMv.out _ H2.out.1 H2.out.2.1).mono ?_
    rintro e w3 ⟨rfl, r3, f3, q3, g3⟩
    have hpbl := H2.out.2.2.2.gr g3 HPB.out
    have HT := Lib.hid (And.intro r3 (And.intro f3 (And.intro q3 (And.intro ((H2.out.2.2.1.of0 (cs := rq :: r.all)).trans g3) hpbl))))
    clear r3 f3 q3 g3 hpbl H2 HMv
    have hm := HX.out
    unfold regZ at hm
    rw [if_pos hc] at hm
    by_cases hM : (movZ P D B j).1 = 0
    · rw [if_pos hM] at HT hm
      have HOn := Lib.hid (And.intro (HMr.out.1 hM) (And.intro HMr.out.2.2.2.1 (show j + 1 ≤ 4294967295 by have := HJ.out; omega)))
      obtain ⟨⟨e2, D2, B2⟩, hMv⟩ : ∃ X, movZ P D B j = X := ⟨_, rfl⟩
      rw [hMv] at HT hm HOn hM ⊢
      simp only at HT hm HOn hM ⊢
      subst hM
      have HCP := Lib.hid (show 0 ≤ 65536 by omega)
      clear hMv HMr HOn0
      have HSt := Lib.hid (fun W (q : RefIs W r D2) => show Calls Tryz.prog 33 #[.pointer (some ⟨r.rd, 0, none⟩), .agg #[.int .i64 P.a, .int .i64 (P.l : Int), .int .i64 P.s, .int .i64 P.psi]] W _ from rstate07 HP.out.1 q HOn.out.1 HOn.out.2.1 HOn.out.2.2)
      have HSl := Lib.hid (fun W => rslot07 (j := (j + 1)) HP.out.1 i HP.out.2 W)
      have HWr := Lib.hid (fun W (q : RefIs W r D2) (hf : Fu D2 (cc + 2800)) => show Calls Tryz.prog 125 #[.pointer (some ⟨r.rd, 0, none⟩), .agg #[.int .i64 P.a, .int .i64 ((P.l : Int) + 2), .int .i64 P.s], .int .i64 (slotJ P (j + 1) i), .string s] W _ from rwrite_any (p := bankR P) (slotJ P (j + 1) i) s q HOn.out.1.live HOn.out.1.ti HOn.out.2.1 hf (by have := HCC.out; omega) HP.out.1.ok HSZ.out)
      obtain ⟨⟨e3, D3, B3⟩, hY⟩ : ∃ X, writeS (bankR P) (slotJ P (j + 1) i) s D2 B2 = X := ⟨_, rfl⟩
      rw [hY] at HWr
      simp only [hY] at hm
      have HM := Lib.hid hm
      clear hm
      obtain ⟨S, hS⟩ : ∃ S : Int, sAt P.l (j + 1) = S := ⟨_, rfl⟩
      obtain ⟨Gg, hGg⟩ : ∃ G : Int, gAt P.l (j + 1) = G := ⟨_, rfl⟩
      obtain ⟨K, hK⟩ : ∃ K : Int, slotJ P (j + 1) i = K := ⟨_, rfl⟩
      rw [hS, hGg] at HSt HSl
      rw [hK] at HSl HWr
      clear hS hGg hK hY
      have c0 := HT.out.2.2.2.2.cell 0
      have c1 := HT.out.2.2.2.2.cell 1
      have c2 := HT.out.2.2.2.2.cell 2
      have c3 := HT.out.2.2.2.2.cell 3
      go_wp2_with fail
      refine (HBk.out _).mono ?_
      rintro e w4 ⟨rfl, g4⟩
      have HT4 := Lib.hid (And.intro (HT.out.1.gr0 g4) (And.intro HT.out.2.1 (And.intro (HT.out.2.2.1.gr0 g4) (And.intro (HT.out.2.2.2.1.next0 g4) (HT.out.2.2.2.2.gr0 g4)))))
      clear g4 c0 c1 c2 c3 HT
      go_upto_region 11 with fail
      have hb := Holds.new w4 #[.int .i64 P.a, .int .i64 ((P.l : Int) + 2), .int .i64 P.s] 138
      have ga := (Gr.refl [] w4).alloc (Obj.cells #[.int .i64 P.a, .int .i64 ((P.l : Int) + 2), .int .i64 P.s] 138)
      have HT5 := Lib.hid (And.intro (HT4.out.1.gr0 ga) (And.intro HT4.out.2.1 (And.intro (HT4.out.2.2.1.gr0 ga) (And.intro (HT4.out.2.2.2.1.next0 ga) (And.intro (HT4.out.2.2.2.2.gr0 ga) hb)))))
      have HBB := Lib.hid (show w4.heap.size ∉ r.all from fun e => by have := HT4.out.1.lt _ e; omega)
      clear hb ga HT4
      generalize (w4.alloc (Obj.cells #[.int .i64 P.a, .int .i64 ((P.l : Int) + 2), .int .i64 P.s] 138)) = w5 at *
      obtain ⟨bb, hbb⟩ : ∃ bb, w4.heap.size = bb := ⟨_, rfl⟩
      rw [hbb] at HT5 HBB ⊢
      clear hbb
      have c0 := HT5.out.2.2.2.2.1.cell 0
      have c1 := HT5.out.2.2.2.2.1.cell 1
      have c2 := HT5.out.2.2.2.2.1.cell 2
      have c3 := HT5.out.2.2.2.2.1.cell 3
      go_wp2_with fail
      refine (HSt.out _ HT5.out.1).mono ?_
      rintro e w6 ⟨rfl, g6⟩
      have HT6 := Lib.hid (And.intro (HT5.out.1.gr0 g6) (And.intro HT5.out.2.1 (And.intro (HT5.out.2.2.1.gr0 g6) (And.intro (HT5.out.2.2.2.1.next0 g6) (And.intro (HT5.out.2.2.2.2.1.gr0 g6) (HT5.out.2.2.2.2.2.gr0 g6))))))
      clear g6 c0 c1 c2 c3 HT5
      have c1 := HT6.out.2.2.2.2.1.cell 1
      go_wp2_with fail
      refine (HSl.out _).mono ?_
      rintro e w7 ⟨rfl, g7⟩
      have HT7 := Lib.hid (And.intro (HT6.out.1.gr0 g7) (And.intro HT6.out.2.1 (And.intro (HT6.out.2.2.1.gr0 g7) (And.intro (HT6.out.2.2.2.1.next0 g7) (HT6.out.2.2.2.2.2.gr0 g7)))))
      clear g7 c1 HT6
      have b0 := HT7.out.2.2.2.2.cell 0
      have b1 := HT7.out.2.2.2.2.cell 1
      have b2 := HT7.out.2.2.2.2.cell 2
      go_wp2_with fail
      refine (HWr.out _ HT7.out.1 HT7.out.2.1).mono ?_
      rintro e w8 ⟨rfl, r8, f8, g8⟩
      have HT8 := Lib.hid (And.intro r8 (And.intro f8 (And.intro (HT7.out.2.2.1.gr g8 HSEP.out) (HT7.out.2.2.2.1.trans (g8.mono fun b hb => List.mem_cons_of_mem _ hb)))))
      clear r8 f8 g8 b0 b1 b2 HT7
      have q4 : w8.cell? ⟨rq, 4, none⟩ = some (.int .i64 ((0 : Nat) : Int)) := HT8.out.2.2.1.cell 4
      have f4 : w8.frozen? ⟨rq, 4, none⟩ = false := HT8.out.2.2.1.frozen 4
      have hcw : IntKind.i64.wrap (((0 : Nat) : Int) + 1) = ((0 + 1 : Nat) : Int) := by
        rw [IntWalk.i64_in _ (by have := HCP.out; omega)]
        rfl
      by_cases he : e3 = 0
      · subst he
        clear hcw
        go_wp2_with fail
        go_ret
        have hm := HM.out
        subst hm
        have gs : Gr (rq :: r.all) w8 (w8.setCell ⟨rq, 4, none⟩ (.int .i64 1)) := (Gr.refl (rq :: r.all) w8).setCell (p := ⟨rq, 4, none⟩) (.inl (by simp)) _
        have hs := HT8.out.2.2.1.set 4 (.int .i64 1)
        refine ⟨rfl, HT8.out.1.gr ((Gr.refl [rq] w8).setCell (p := ⟨rq, 4, none⟩) (.inl (by simp)) _) (fun x hx hy => HSEP.out (by rw [← List.mem_singleton.1 hy]; exact hx)), HT8.out.2.1.mono (by omega), ?_, HT8.out.2.2.2.trans gs⟩
        simpa [rqRow] using hs
      · have HE := Lib.hid he
        go_wp2_with fail
        go_ret
        have hm := HM.out
        subst hm
        refine ⟨rfl, HT8.out.1, HT8.out.2.1.mono (by omega), ?_, HT8.out.2.2.2⟩
        rw [if_neg HE.out]
        exact HT8.out.2.2.1
    · rw [if_neg hM] at HT hm
      subst hm
      have HE := Lib.hid hM
      obtain ⟨e9, he9⟩ : ∃ e9, (movZ P D B j).1 = e9 := ⟨_, rfl⟩
      rw [he9] at HE hM ⊢
      go_wp2_with fail
      go_ret
      exact ⟨by rw [← he9]; rfl, HT.out.1, HT.out.2.1.mono (by omega), HT.out.2.2.1, HT.out.2.2.2.1⟩
  · skip
    have hm := HX.out
    unfold regZ at hm
    rw [if_neg hc] at hm
    have HOn := Lib.hid (And.intro HOn0.out.1 (And.intro HOn0.out.2.1 (show j ≤ 4294967295 by have := HJ.out; omega)))
    go_wp2_with fail
    go_quiet (fail)
    have gq : Gr [] w1 (w1.drewN nq) := (Gr.refl [] w1).drewN nq
    have HT := Lib.hid (And.intro (H1.out.1.gr0 gq) (And.intro (HD.out.2.2.mono (show cc ≤ cc + 2800 by omega)) (And.intro (H1.out.2.1.gr0 gq) (And.intro ((H1.out.2.2.1.trans gq).of0 (cs := rq :: r.all)) (H1.out.2.2.2.gr0 gq)))))
    clear gq c1 c3 q4 H1
    generalize w1.drewN nq = w2 at *
    clear HMv HMr HOn0
    have HSt := Lib.hid (fun W (q : RefIs W r D) => show Calls Tryz.prog 33 #[.pointer (some ⟨r.rd, 0, none⟩), .agg #[.int .i64 P.a, .int .i64 (P.l : Int), .int .i64 P.s, .int .i64 P.psi]] W _ from rstate07 HP.out.1 q HOn.out.1 HOn.out.2.1 HOn.out.2.2)
    have HSl := Lib.hid (fun W => rslot07 (j := j) HP.out.1 i HP.out.2 W)
    have HWr := Lib.hid (fun W (q : RefIs W r D) (hf : Fu D (cc + 2800)) => show Calls Tryz.prog 125 #[.pointer (some ⟨r.rd, 0, none⟩), .agg #[.int .i64 P.a, .int .i64 ((P.l : Int) + 2), .int .i64 P.s], .int .i64 (slotJ P j i), .string s] W _ from rwrite_any (p := bankR P) (slotJ P j i) s q HOn.out.1.live HOn.out.1.ti HOn.out.2.1 hf (by have := HCC.out; omega) HP.out.1.ok HSZ.out)
    obtain ⟨⟨e3, D3, B3⟩, hY⟩ : ∃ X, writeS (bankR P) (slotJ P j i) s D B = X := ⟨_, rfl⟩
    rw [hY] at HWr
    simp only [hY] at hm
    have HM := Lib.hid hm
    clear hm
    obtain ⟨S, hS⟩ : ∃ S : Int, sAt P.l j = S := ⟨_, rfl⟩
    obtain ⟨Gg, hGg⟩ : ∃ G : Int, gAt P.l j = G := ⟨_, rfl⟩
    obtain ⟨K, hK⟩ : ∃ K : Int, slotJ P j i = K := ⟨_, rfl⟩
    rw [hS, hGg] at HSt HSl
    rw [hK] at HSl HWr
    clear hS hGg hK hY
    have c0 := HT.out.2.2.2.2.cell 0
    have c1 := HT.out.2.2.2.2.cell 1
    have c2 := HT.out.2.2.2.2.cell 2
    have c3 := HT.out.2.2.2.2.cell 3
    go_wp2_with fail
    refine (HBk.out _).mono ?_
    rintro e w4 ⟨rfl, g4⟩
    have HT4 := Lib.hid (And.intro (HT.out.1.gr0 g4) (And.intro HT.out.2.1 (And.intro (HT.out.2.2.1.gr0 g4) (And.intro (HT.out.2.2.2.1.next0 g4) (HT.out.2.2.2.2.gr0 g4)))))
    clear g4 c0 c1 c2 c3 HT
    go_upto_region 11 with fail
    have hb := Holds.new w4 #[.int .i64 P.a, .int .i64 ((P.l : Int) + 2), .int .i64 P.s] 138
    have ga := (Gr.refl [] w4).alloc (Obj.cells #[.int .i64 P.a, .int .i64 ((P.l : Int) + 2), .int .i64 P.s] 138)
    have HT5 := Lib.hid (And.intro (HT4.out.1.gr0 ga) (And.intro HT4.out.2.1 (And.intro (HT4.out.2.2.1.gr0 ga) (And.intro (HT4.out.2.2.2.1.next0 ga) (And.intro (HT4.out.2.2.2.2.gr0 ga) hb)))))
    have HBB := Lib.hid (show w4.heap.size ∉ r.all from fun e => by have := HT4.out.1.lt _ e; omega)
    clear hb ga HT4
    generalize (w4.alloc (Obj.cells #[.int .i64 P.a, .int .i64 ((P.l : Int) + 2), .int .i64 P.s] 138)) = w5 at *
    obtain ⟨bb, hbb⟩ : ∃ bb, w4.heap.size = bb := ⟨_, rfl⟩
    rw [hbb] at HT5 HBB ⊢
    clear hbb
    have c0 := HT5.out.2.2.2.2.1.cell 0
    have c1 := HT5.out.2.2.2.2.1.cell 1
    have c2 := HT5.out.2.2.2.2.1.cell 2
    have c3 := HT5.out.2.2.2.2.1.cell 3
    go_wp2_with fail
    refine (HSt.out _ HT5.out.1).mono ?_
    rintro e w6 ⟨rfl, g6⟩
    have HT6 := Lib.hid (And.intro (HT5.out.1.gr0 g6) (And.intro HT5.out.2.1 (And.intro (HT5.out.2.2.1.gr0 g6) (And.intro (HT5.out.2.2.2.1.next0 g6) (And.intro (HT5.out.2.2.2.2.1.gr0 g6) (HT5.out.2.2.2.2.2.gr0 g6))))))
    clear g6 c0 c1 c2 c3 HT5
    have c1 := HT6.out.2.2.2.2.1.cell 1
    go_wp2_with fail
    refine (HSl.out _).mono ?_
    rintro e w7 ⟨rfl, g7⟩
    have HT7 := Lib.hid (And.intro (HT6.out.1.gr0 g7) (And.intro HT6.out.2.1 (And.intro (HT6.out.2.2.1.gr0 g7) (And.intro (HT6.out.2.2.2.1.next0 g7) (HT6.out.2.2.2.2.2.gr0 g7)))))
    clear g7 c1 HT6
    have b0 := HT7.out.2.2.2.2.cell 0
    have b1 := HT7.out.2.2.2.2.cell 1
    have b2 := HT7.out.2.2.2.2.cell 2
    go_wp2_with fail
    refine (HWr.out _ HT7.out.1 HT7.out.2.1).mono ?_
    rintro e w8 ⟨rfl, r8, f8, g8⟩
    have HT8 := Lib.hid (And.intro r8 (And.intro f8 (And.intro (HT7.out.2.2.1.gr g8 HSEP.out) (HT7.out.2.2.2.1.trans (g8.mono fun b hb => List.mem_cons_of_mem _ hb)))))
    clear r8 f8 g8 b0 b1 b2 HT7
    have q4 : w8.cell? ⟨rq, 4, none⟩ = some (.int .i64 ((c : Nat) : Int)) := HT8.out.2.2.1.cell 4
    have f4 : w8.frozen? ⟨rq, 4, none⟩ = false := HT8.out.2.2.1.frozen 4
    have hcw : IntKind.i64.wrap (((c : Nat) : Int) + 1) = ((c + 1 : Nat) : Int) := by
      rw [IntWalk.i64_in _ (by have := HCP.out; omega)]
      rfl
    by_cases he : e3 = 0
    · subst he
      obtain ⟨C1, hC1⟩ : ∃ C1 : Nat, C1 = c + 1 := ⟨_, rfl⟩
      rw [← hC1] at hcw
      have HC1 := Lib.hid hC1
      clear hC1
      go_wp2_with fail
      go_ret
      have hm := HM.out
      subst hm
      have gs : Gr (rq :: r.all) w8 (w8.setCell ⟨rq, 4, none⟩ (.int .i64 (C1 : Int))) := (Gr.refl (rq :: r.all) w8).setCell (p := ⟨rq, 4, none⟩) (.inl (by simp)) _
      have hs := HT8.out.2.2.1.set 4 (.int .i64 (C1 : Int))
      refine ⟨rfl, HT8.out.1.gr ((Gr.refl [rq] w8).setCell (p := ⟨rq, 4, none⟩) (.inl (by simp)) _) (fun x hx hy => HSEP.out (by rw [← List.mem_singleton.1 hy]; exact hx)), HT8.out.2.1.mono (by omega), ?_, HT8.out.2.2.2.trans gs⟩
      rw [HC1.out] at hs ⊢
      simpa [rqRow] using hs
    · have HE := Lib.hid he
      go_wp2_with fail
      go_ret
      have hm := HM.out
      subst hm
      refine ⟨rfl, HT8.out.1, HT8.out.2.1.mono (by omega), ?_, HT8.out.2.2.2⟩
      rw [if_neg HE.out]
      exact HT8.out.2.2.1
set_option maxRecDepth 100000 in
set_option maxHeartbeats 16000000 in
theorem rww07 (i k v : Nat) (hk : k < 8) (hv : v < 18446744073709551616) (hi : i < P.l) (hP : OkR P) (h : RefIs w r D) (hq : Holds w rq (rqRow P c) 75) (hrq : rq ∉ r.all) (hO : OnR P D B j) (hbb : MBB D) (hb : Fu D cc) (hcc : cc < 400000) (hj : j < 4294967294) (hc9 : c ≤ 65536) :
    Calls Tryz.prog 63 #[.pointer (some ⟨r.rd, 0, none⟩), .pointer (some ⟨rq, 0, none⟩), .int .i64 (i : Int), .string ⟨#[]⟩, .int .i64 (k : Int), .int .u64 (v : Int)] w (RqPost w r P rq cc (regZ P i (fun z => writeWordS (bankR P) z (k : Int) v) D B j c)) := by
  obtain ⟨X, hX⟩ : ∃ X, X = regZ P i (fun z => writeWordS (bankR P) z (k : Int) v) D B j c := ⟨_, rfl⟩
  rw [← hX]
  have HX := Lib.hid hX
  have HP := Lib.hid (And.intro hP hi)
  have HBk := Lib.hid (fun W => show Calls Tryz.prog 67 #[.agg #[.int .i64 P.a, .int .i64 (P.l : Int), .int .i64 P.s, .int .i64 P.psi]] W _ from rbank07 hP W)
  have HMv := Lib.hid (fun W (q1 : RefIs W r D) (q2 : Holds W rq (rqRow P c) 75) => rmove07 hP q1 q2 hrq hO hbb hb (by omega) (by omega))
  have HMr := Lib.hid (hO.move hP hbb.1 hbb (by omega))
  have HOn0 := Lib.hid (And.intro hO hbb)
  have HJ := Lib.hid hj
  have HCC := Lib.hid hcc
  have HCP := Lib.hid hc9
  have HSEP := Lib.hid hrq
  have HD := Lib.hid (And.intro h (And.intro hq hb))
  have q0 := hq.cell 0
  have q1 := hq.cell 1
  have q2 := hq.cell 2
  have q3 := hq.cell 3
  unfold rqRow at q0 q1 q2 q3
  have ik1 : ¬ ((i : Int) < 0) := by omega
  have ik2 : ¬ ((P.l : Int) ≤ (i : Int)) := by omega
  have HSZ := Lib.hid hv
  have ik3 : ¬ ((k : Int) < 0) := by omega
  have ik4 : ¬ (7 < (k : Int)) := by omega
  unfold planV bankR at HBk
  simp only at HBk
  clear hX hP h hq hrq hO hbb hb hcc hj hc9 hi hk hv
  go_enter Tryz.func63, Tryz.ntmps63
  go_upto_region 4 with fail
  have hx := Holds.new w #[.int .i64 P.a, .int .i64 (P.l : Int), .int .i64 P.s, .int .i64 P.psi] 57
  have ga := (Gr.refl [] w).alloc (Obj.cells #[.int .i64 P.a, .int .i64 (P.l : Int), .int .i64 P.s, .int .i64 P.psi] 57)
  have H1 := Lib.hid (And.intro (HD.out.1.gr0 ga) (And.intro (HD.out.2.1.gr0 ga) (And.intro ga hx)))
  have HPB := Lib.hid (show w.heap.size ∉ rq :: r.all from fun e => by
    rcases List.mem_cons.1 e with e | e
    · have := HD.out.2.1.lt; omega
    · have := HD.out.1.lt _ e; omega)
  clear hx ga q0 q1 q2 q3
  generalize (w.alloc (Obj.cells #[.int .i64 P.a, .int .i64 (P.l : Int), .int .i64 P.s, .int .i64 P.psi] 57)) = w1 at *
  obtain ⟨pb, hpb⟩ : ∃ pb, w.heap.size = pb := ⟨_, rfl⟩
  rw [hpb] at H1 HPB ⊢
  clear hpb
  have c1 := H1.out.2.2.2.cell 1
  have c3 := H1.out.2.2.2.cell 3
  have q4 : w1.cell? ⟨rq, 4, none⟩ = some (.int .i64 (c : Int)) := H1.out.2.1.cell 4
  by_cases hc : P.psi ≤ (c : Int)
  · skip
    go_wp2_with fail
    go_quiet (fail)
    have gq : Gr [] w1 (w1.drewN nq) := (Gr.refl [] w1).drewN nq
    have H2 := Lib.hid (And.intro (H1.out.1.gr0 gq) (And.intro (H1.out.2.1.gr0 gq) (And.intro (H1.out.2.2.1.trans gq) (H1.out.2.2.2.gr0 gq))))
    clear gq c1 c3 q4 H1
    generalize w1.drewN nq = w2 at *
    go_wp2_with fail
    refine (HMv.out _ H2.out.1 H2.out.2.1).mono ?_
    rintro e w3 ⟨rfl, r3, f3, q3, g3⟩
    have hpbl := H2.out.2.2.2.gr g3 HPB.out
    have HT := Lib.hid (And.intro r3 (And.intro f3 (And.intro q3 (And.intro ((H2.out.2.2.1.of0 (cs := rq :: r.all)).trans g3) hpbl))))
    clear r3 f3 q3 g3 hpbl H2 HMv
    have hm := HX.out
    unfold regZ at hm
    rw [if_pos hc] at hm
    by_cases hM : (movZ P D B j).1 = 0
    · rw [if_pos hM] at HT hm
      have HOn := Lib.hid (And.intro (HMr.out.1 hM) (And.intro HMr.out.2.2.2.1 (show j + 1 ≤ 4294967295 by have := HJ.out; omega)))
      obtain ⟨⟨e2, D2, B2⟩, hMv⟩ : ∃ X, movZ P D B j = X := ⟨_, rfl⟩
      rw [hMv] at HT hm HOn hM ⊢
      simp only at HT hm HOn hM ⊢
      subst hM
      have HCP := Lib.hid (show 0 ≤ 65536 by omega)
      clear hMv HMr HOn0
      have HSt := Lib.hid (fun W (q : RefIs W r D2) => show Calls Tryz.prog 33 #[.pointer (some ⟨r.rd, 0, none⟩), .agg #[.int .i64 P.a, .int .i64 (P.l : Int), .int .i64 P.s, .int .i64 P.psi]] W _ from rstate07 HP.out.1 q HOn.out.1 HOn.out.2.1 HOn.out.2.2)
      have HSl := Lib.hid (fun W => rslot07 (j := (j + 1)) HP.out.1 i HP.out.2 W)
      have HWr := Lib.hid (fun W (q : RefIs W r D2) (hf : Fu D2 (cc + 2800)) => show Calls Tryz.prog 103 #[.pointer (some ⟨r.rd, 0, none⟩), .agg #[.int .i64 P.a, .int .i64 ((P.l : Int) + 2), .int .i64 P.s], .int .i64 (slotJ P (j + 1) i), .int .i64 (k : Int), .int .u64 (v : Int)] W _ from rww_any (p := bankR P) (slotJ P (j + 1) i) (k : Int) v q HOn.out.1.live HOn.out.1.ti HOn.out.2.1 hf (by have := HCC.out; omega) HP.out.1.ok HSZ.out)
      obtain ⟨⟨e3, D3, B3⟩, hY⟩ : ∃ X, writeWordS (bankR P) (slotJ P (j + 1) i) (k : Int) v D2 B2 = X := ⟨_, rfl⟩
      rw [hY] at HWr
      simp only [hY] at hm
      have HM := Lib.hid hm
      clear hm
      obtain ⟨S, hS⟩ : ∃ S : Int, sAt P.l (j + 1) = S := ⟨_, rfl⟩
      obtain ⟨Gg, hGg⟩ : ∃ G : Int, gAt P.l (j + 1) = G := ⟨_, rfl⟩
      obtain ⟨K, hK⟩ : ∃ K : Int, slotJ P (j + 1) i = K := ⟨_, rfl⟩
      rw [hS, hGg] at HSt HSl
      rw [hK] at HSl HWr
      clear hS hGg hK hY
      have c0 := HT.out.2.2.2.2.cell 0
      have c1 := HT.out.2.2.2.2.cell 1
      have c2 := HT.out.2.2.2.2.cell 2
      have c3 := HT.out.2.2.2.2.cell 3
      go_wp2_with fail
      refine (HBk.out _).mono ?_
      rintro e w4 ⟨rfl, g4⟩
      have HT4 := Lib.hid (And.intro (HT.out.1.gr0 g4) (And.intro HT.out.2.1 (And.intro (HT.out.2.2.1.gr0 g4) (And.intro (HT.out.2.2.2.1.next0 g4) (HT.out.2.2.2.2.gr0 g4)))))
      clear g4 c0 c1 c2 c3 HT
      go_upto_region 11 with fail
      have hb := Holds.new w4 #[.int .i64 P.a, .int .i64 ((P.l : Int) + 2), .int .i64 P.s] 138
      have ga := (Gr.refl [] w4).alloc (Obj.cells #[.int .i64 P.a, .int .i64 ((P.l : Int) + 2), .int .i64 P.s] 138)
      have HT5 := Lib.hid (And.intro (HT4.out.1.gr0 ga) (And.intro HT4.out.2.1 (And.intro (HT4.out.2.2.1.gr0 ga) (And.intro (HT4.out.2.2.2.1.next0 ga) (And.intro (HT4.out.2.2.2.2.gr0 ga) hb)))))
      have HBB := Lib.hid (show w4.heap.size ∉ r.all from fun e => by have := HT4.out.1.lt _ e; omega)
      clear hb ga HT4
      generalize (w4.alloc (Obj.cells #[.int .i64 P.a, .int .i64 ((P.l : Int) + 2), .int .i64 P.s] 138)) = w5 at *
      obtain ⟨bb, hbb⟩ : ∃ bb, w4.heap.size = bb := ⟨_, rfl⟩
      rw [hbb] at HT5 HBB ⊢
      clear hbb
      have c0 := HT5.out.2.2.2.2.1.cell 0
      have c1 := HT5.out.2.2.2.2.1.cell 1
      have c2 := HT5.out.2.2.2.2.1.cell 2
      have c3 := HT5.out.2.2.2.2.1.cell 3
      go_wp2_with fail
      refine (HSt.out _ HT5.out.1).mono ?_
      rintro e w6 ⟨rfl, g6⟩
      have HT6 := Lib.hid (And.intro (HT5.out.1.gr0 g6) (And.intro HT5.out.2.1 (And.intro (HT5.out.2.2.1.gr0 g6) (And.intro (HT5.out.2.2.2.1.next0 g6) (And.intro (HT5.out.2.2.2.2.1.gr0 g6) (HT5.out.2.2.2.2.2.gr0 g6))))))
      clear g6 c0 c1 c2 c3 HT5
      have c1 := HT6.out.2.2.2.2.1.cell 1
      go_wp2_with fail
      refine (HSl.out _).mono ?_
      rintro e w7 ⟨rfl, g7⟩
      have HT7 := Lib.hid (And.intro (HT6.out.1.gr0 g7) (And.intro HT6.out.2.1 (And.intro (HT6.out.2.2.1.gr0 g7) (And.intro (HT6.out.2.2.2.1.next0 g7) (HT6.out.2.2.2.2.2.gr0 g7)))))
      clear g7 c1 HT6
      have b0 := HT7.out.2.2.2.2.cell 0
      have b1 := HT7.out.2.2.2.2.cell 1
      have b2 := HT7.out.2.2.2.2.cell 2
      go_wp2_with fail
      refine (HWr.out _ HT7.out.1 HT7.out.2.1).mono ?_
      rintro e w8 ⟨rfl, r8, f8, g8⟩
      have HT8 := Lib.hid (And.intro r8 (And.intro f8 (And.intro (HT7.out.2.2.1.gr g8 HSEP.out) (HT7.out.2.2.2.1.trans (g8.mono fun b hb => List.mem_cons_of_mem _ hb)))))
      clear r8 f8 g8 b0 b1 b2 HT7
      have q4 : w8.cell? ⟨rq, 4, none⟩ = some (.int .i64 ((0 : Nat) : Int)) := HT8.out.2.2.1.cell 4
      have f4 : w8.frozen? ⟨rq, 4, none⟩ = false := HT8.out.2.2.1.frozen 4
      have hcw : IntKind.i64.wrap (((0 : Nat) : Int) + 1) = ((0 + 1 : Nat) : Int) := by
        rw [IntWalk.i64_in _ (by have := HCP.out; omega)]
        rfl
      by_cases he : e3 = 0
      · subst he
        clear hcw
        go_wp2_with fail
        go_ret
        have hm := HM.out
        subst hm
        have gs : Gr (rq :: r.all) w8 (w8.setCell ⟨rq, 4, none⟩ (.int .i64 1)) := (Gr.refl (rq :: r.all) w8).setCell (p := ⟨rq, 4, none⟩) (.inl (by simp)) _
        have hs := HT8.out.2.2.1.set 4 (.int .i64 1)
        refine ⟨rfl, HT8.out.1.gr ((Gr.refl [rq] w8).setCell (p := ⟨rq, 4, none⟩) (.inl (by simp)) _) (fun x hx hy => HSEP.out (by rw [← List.mem_singleton.1 hy]; exact hx)), HT8.out.2.1.mono (by omega), ?_, HT8.out.2.2.2.trans gs⟩
        simpa [rqRow] using hs
      · have HE := Lib.hid he
        go_wp2_with fail
        go_ret
        have hm := HM.out
        subst hm
        refine ⟨rfl, HT8.out.1, HT8.out.2.1.mono (by omega), ?_, HT8.out.2.2.2⟩
        rw [if_neg HE.out]
        exact HT8.out.2.2.1
    · rw [if_neg hM] at HT hm
      subst hm
      have HE := Lib.hid hM
      obtain ⟨e9, he9⟩ : ∃ e9, (movZ P D B j).1 = e9 := ⟨_, rfl⟩
      rw [he9] at HE hM ⊢
      go_wp2_with fail
      go_ret
      exact ⟨by rw [← he9]; rfl, HT.out.1, HT.out.2.1.mono (by omega), HT.out.2.2.1, HT.out.2.2.2.1⟩
  · skip
    have hm := HX.out
    unfold regZ at hm
    rw [if_neg hc] at hm
    have HOn := Lib.hid (And.intro HOn0.out.1 (And.intro HOn0.out.2.1 (show j ≤ 4294967295 by have := HJ.out; omega)))
    go_wp2_with fail
    go_quiet (fail)
    have gq : Gr [] w1 (w1.drewN nq) := (Gr.refl [] w1).drewN nq
    have HT := Lib.hid (And.intro (H1.out.1.gr0 gq) (And.intro (HD.out.2.2.mono (show cc ≤ cc + 2800 by omega)) (And.intro (H1.out.2.1.gr0 gq) (And.intro ((H1.out.2.2.1.trans gq).of0 (cs := rq :: r.all)) (H1.out.2.2.2.gr0 gq)))))
    clear gq c1 c3 q4 H1
    generalize w1.drewN nq = w2 at *
    clear HMv HMr HOn0
    have HSt := Lib.hid (fun W (q : RefIs W r D) => show Calls Tryz.prog 33 #[.pointer (some ⟨r.rd, 0, none⟩), .agg #[.int .i64 P.a, .int .i64 (P.l : Int), .int .i64 P.s, .int .i64 P.psi]] W _ from rstate07 HP.out.1 q HOn.out.1 HOn.out.2.1 HOn.out.2.2)
    have HSl := Lib.hid (fun W => rslot07 (j := j) HP.out.1 i HP.out.2 W)
    have HWr := Lib.hid (fun W (q : RefIs W r D) (hf : Fu D (cc + 2800)) => show Calls Tryz.prog 103 #[.pointer (some ⟨r.rd, 0, none⟩), .agg #[.int .i64 P.a, .int .i64 ((P.l : Int) + 2), .int .i64 P.s], .int .i64 (slotJ P j i), .int .i64 (k : Int), .int .u64 (v : Int)] W _ from rww_any (p := bankR P) (slotJ P j i) (k : Int) v q HOn.out.1.live HOn.out.1.ti HOn.out.2.1 hf (by have := HCC.out; omega) HP.out.1.ok HSZ.out)
    obtain ⟨⟨e3, D3, B3⟩, hY⟩ : ∃ X, writeWordS (bankR P) (slotJ P j i) (k : Int) v D B = X := ⟨_, rfl⟩
    rw [hY] at HWr
    simp only [hY] at hm
    have HM := Lib.hid hm
    clear hm
    obtain ⟨S, hS⟩ : ∃ S : Int, sAt P.l j = S := ⟨_, rfl⟩
    obtain ⟨Gg, hGg⟩ : ∃ G : Int, gAt P.l j = G := ⟨_, rfl⟩
    obtain ⟨K, hK⟩ : ∃ K : Int, slotJ P j i = K := ⟨_, rfl⟩
    rw [hS, hGg] at HSt HSl
    rw [hK] at HSl HWr
    clear hS hGg hK hY
    have c0 := HT.out.2.2.2.2.cell 0
    have c1 := HT.out.2.2.2.2.cell 1
    have c2 := HT.out.2.2.2.2.cell 2
    have c3 := HT.out.2.2.2.2.cell 3
    go_wp2_with fail
    refine (HBk.out _).mono ?_
    rintro e w4 ⟨rfl, g4⟩
    have HT4 := Lib.hid (And.intro (HT.out.1.gr0 g4) (And.intro HT.out.2.1 (And.intro (HT.out.2.2.1.gr0 g4) (And.intro (HT.out.2.2.2.1.next0 g4) (HT.out.2.2.2.2.gr0 g4)))))
    clear g4 c0 c1 c2 c3 HT
    go_upto_region 11 with fail
    have hb := Holds.new w4 #[.int .i64 P.a, .int .i64 ((P.l : Int) + 2), .int .i64 P.s] 138
    have ga := (Gr.refl [] w4).alloc (Obj.cells #[.int .i64 P.a, .int .i64 ((P.l : Int) + 2), .int .i64 P.s] 138)
    have HT5 := Lib.hid (And.intro (HT4.out.1.gr0 ga) (And.intro HT4.out.2.1 (And.intro (HT4.out.2.2.1.gr0 ga) (And.intro (HT4.out.2.2.2.1.next0 ga) (And.intro (HT4.out.2.2.2.2.gr0 ga) hb)))))
    have HBB := Lib.hid (show w4.heap.size ∉ r.all from fun e => by have := HT4.out.1.lt _ e; omega)
    clear hb ga HT4
    generalize (w4.alloc (Obj.cells #[.int .i64 P.a, .int .i64 ((P.l : Int) + 2), .int .i64 P.s] 138)) = w5 at *
    obtain ⟨bb, hbb⟩ : ∃ bb, w4.heap.size = bb := ⟨_, rfl⟩
    rw [hbb] at HT5 HBB ⊢
    clear hbb
    have c0 := HT5.out.2.2.2.2.1.cell 0
    have c1 := HT5.out.2.2.2.2.1.cell 1
    have c2 := HT5.out.2.2.2.2.1.cell 2
    have c3 := HT5.out.2.2.2.2.1.cell 3
    go_wp2_with fail
    refine (HSt.out _ HT5.out.1).mono ?_
    rintro e w6 ⟨rfl, g6⟩
    have HT6 := Lib.hid (And.intro (HT5.out.1.gr0 g6) (And.intro HT5.out.2.1 (And.intro (HT5.out.2.2.1.gr0 g6) (And.intro (HT5.out.2.2.2.1.next0 g6) (And.intro (HT5.out.2.2.2.2.1.gr0 g6) (HT5.out.2.2.2.2.2.gr0 g6))))))
    clear g6 c0 c1 c2 c3 HT5
    have c1 := HT6.out.2.2.2.2.1.cell 1
    go_wp2_with fail
    refine (HSl.out _).mono ?_
    rintro e w7 ⟨rfl, g7⟩
    have HT7 := Lib.hid (And.intro (HT6.out.1.gr0 g7) (And.intro HT6.out.2.1 (And.intro (HT6.out.2.2.1.gr0 g7) (And.intro (HT6.out.2.2.2.1.next0 g7) (HT6.out.2.2.2.2.2.gr0 g7)))))
    clear g7 c1 HT6
    have b0 := HT7.out.2.2.2.2.cell 0
    have b1 := HT7.out.2.2.2.2.cell 1
    have b2 := HT7.out.2.2.2.2.cell 2
    go_wp2_with fail
    refine (HWr.out _ HT7.out.1 HT7.out.2.1).mono ?_
    rintro e w8 ⟨rfl, r8, f8, g8⟩
    have HT8 := Lib.hid (And.intro r8 (And.intro f8 (And.intro (HT7.out.2.2.1.gr g8 HSEP.out) (HT7.out.2.2.2.1.trans (g8.mono fun b hb => List.mem_cons_of_mem _ hb)))))
    clear r8 f8 g8 b0 b1 b2 HT7
    have q4 : w8.cell? ⟨rq, 4, none⟩ = some (.int .i64 ((c : Nat) : Int)) := HT8.out.2.2.1.cell 4
    have f4 : w8.frozen? ⟨rq, 4, none⟩ = false := HT8.out.2.2.1.frozen 4
    have hcw : IntKind.i64.wrap (((c : Nat) : Int) + 1) = ((c + 1 : Nat) : Int) := by
      rw [IntWalk.i64_in _ (by have := HCP.out; omega)]
      rfl
    by_cases he : e3 = 0
    · subst he
      obtain ⟨C1, hC1⟩ : ∃ C1 : Nat, C1 = c + 1 := ⟨_, rfl⟩
      rw [← hC1] at hcw
      have HC1 := Lib.hid hC1
      clear hC1
      go_wp2_with fail
      go_ret
      have hm := HM.out
      subst hm
      have gs : Gr (rq :: r.all) w8 (w8.setCell ⟨rq, 4, none⟩ (.int .i64 (C1 : Int))) := (Gr.refl (rq :: r.all) w8).setCell (p := ⟨rq, 4, none⟩) (.inl (by simp)) _
      have hs := HT8.out.2.2.1.set 4 (.int .i64 (C1 : Int))
      refine ⟨rfl, HT8.out.1.gr ((Gr.refl [rq] w8).setCell (p := ⟨rq, 4, none⟩) (.inl (by simp)) _) (fun x hx hy => HSEP.out (by rw [← List.mem_singleton.1 hy]; exact hx)), HT8.out.2.1.mono (by omega), ?_, HT8.out.2.2.2.trans gs⟩
      rw [HC1.out] at hs ⊢
      simpa [rqRow] using hs
    · have HE := Lib.hid he
      go_wp2_with fail
      go_ret
      have hm := HM.out
      subst hm
      refine ⟨rfl, HT8.out.1, HT8.out.2.1.mono (by omega), ?_, HT8.out.2.2.2⟩
      rw [if_neg HE.out]
      exact HT8.out.2.2.1
end
end Go.Proofs.YtjbhallhmnahbaaGreat
