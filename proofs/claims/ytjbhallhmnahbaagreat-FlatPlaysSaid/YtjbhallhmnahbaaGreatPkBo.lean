/-
  PkBo: RhG, RhI, RhJ, RhL, FpA, FpB, FpC.
-/
import Derived.Test.YtjbhallhmnahbaaGreatPkBn
import Derived.Test.YtjbhallhmnahbaaGreatPkBb
import Derived.Test.YtjbhallhmnahbaaGreatPkAv
import Derived.Test.YtjbhallhmnahbaaGreatPkAo
import Derived.Test.YtjbhallhmnahbaaGreatPkAx
import Derived.Test.YtjbhallhmnahbaaGreatPkAa
import Derived.Test.YtjbhallhmnahbaaGreatPkBe
import Derived.Test.YtjbhallhmnahbaaGreatPkAn
import Derived.Test.YtjbhallhmnahbaaGreatPkBj
import Derived.Test.YtjbhallhmnahbaaGreatPkBk

set_option linter.unusedVariables false

/-
  RingPlays: a write of any line, of any word, on both sides, in one word.
-/
namespace Go.Proofs.YtjbhallhmnahbaaGreat
open Go.RowKit
set_option linter.unusedVariables false

section
variable {w w' : World} {r : RefA} {D : DevS} {P : PlanR} {B : BkS} {j c cc m rq kb : Nat} {q : BkA} {a : DevA}
theorem OnR.mv1 (hP : OkR P) (hmb : MB D) (h : OnR P D B j) (hj : j < 4294967295) : (readR D (bankR P) B (fromI P j)).2 = 0 ∧ (writeS (bankR P) (toI P j) (readR D (bankR P) B (fromI P j)).1 D B).2.1.n = D.n ∧ (movZ P D B j).2.1.n = D.n := by
  obtain ⟨a1, a2, a3, _⟩ := move_last hP h.live hmb h.rgc hj
  exact ⟨a1, a2, a3⟩
end
end Go.Proofs.YtjbhallhmnahbaaGreat

/-
  RingPlays: where a region's line is; the document's Check and Format.
-/
namespace Go.Proofs.YtjbhallhmnahbaaGreat
open Go.RowKit
set_option linter.unusedVariables false

section
variable {w w' : World} {kb : Nat} {q : BkA} {a : DevA} {P : PlanR} {B : BkS} {m j c cc : Nat} {D : DevS} {r : RefA}
set_option maxRecDepth 100000 in
set_option maxHeartbeats 8000000 in
theorem rcheck07 (hP : OkR P) (n : Int) (hn : checkZ (bankR P) n = 0) (w : World) : Calls Tryz.prog 82 #[planRV P, .int .i64 n] w fun e w' => e = .returned (.int .i64 0) ∧ Below w.heap.size w w' := by
  have HBk := Lib.hid (fun W => show Calls Tryz.prog 67 #[.agg #[.int .i64 P.a, .int .i64 (P.l : Int), .int .i64 P.s, .int .i64 P.psi]] W _ from rbank07 hP W)
  have HCk := Lib.hid (fun W => show Calls Tryz.prog 137 #[.agg #[.int .i64 P.a, .int .i64 ((P.l : Int) + 2), .int .i64 P.s], .int .i64 n] W _ from rcheck_any (bankR P) n W)
  rw [hn] at HCk
  have HX := Lib.hid (Holds.new w #[.int .i64 P.a, .int .i64 (P.l : Int), .int .i64 P.s, .int .i64 P.psi] 57)
  have HG := Lib.hid ((Gr.refl [] w).alloc (Obj.cells #[.int .i64 P.a, .int .i64 (P.l : Int), .int .i64 P.s, .int .i64 P.psi] 57))
  have i1 : ¬ ((P.l : Int) < 1) := by have := hP.l1; omega
  have i2 : ¬ (1024 < (P.l : Int)) := by have := hP.l2; omega
  have i3 : ¬ (P.psi < 1) := by have := hP.p1; omega
  have i4 : ¬ (65535 < P.psi) := by have := hP.p2; omega
  clear hP hn
  unfold planV bankR at HBk
  simp only at HBk
  unfold planRV
  go_enter Tryz.func82, Tryz.ntmps82
  go_upto_region 1 with fail
  generalize (w.alloc (Obj.cells #[.int .i64 P.a, .int .i64 (P.l : Int), .int .i64 P.s, .int .i64 P.psi] 57)) = w1 at *
  obtain ⟨pb, hpb⟩ : ∃ pb, w.heap.size = pb := ⟨_, rfl⟩
  have HPW := Lib.hid hpb
  rw [hpb] at HX ⊢
  clear hpb
  have c0 := HX.out.cell 0
  have c1 := HX.out.cell 1
  have c2 := HX.out.cell 2
  have c3 := HX.out.cell 3
  go_wp2_with fail
  refine (HBk.out _).mono ?_
  rintro e w2 ⟨rfl, g2⟩
  have HG2 := Lib.hid (HG.out.trans g2)
  clear g2 c0 c1 c2 c3
  go_upto_region 4 with fail
  have hb := Holds.new w2 #[.int .i64 P.a, .int .i64 ((P.l : Int) + 2), .int .i64 P.s] 138
  have ga := (Gr.refl [] w2).alloc (Obj.cells #[.int .i64 P.a, .int .i64 ((P.l : Int) + 2), .int .i64 P.s] 138)
  have HX3 := Lib.hid (And.intro (HG2.out.trans ga) hb)
  clear hb ga
  generalize (w2.alloc (Obj.cells #[.int .i64 P.a, .int .i64 ((P.l : Int) + 2), .int .i64 P.s] 138)) = w3 at *
  obtain ⟨bb, hbb⟩ : ∃ bb, w2.heap.size = bb := ⟨_, rfl⟩
  rw [hbb] at HX3 ⊢
  clear hbb
  have b0 := HX3.out.2.cell 0
  have b1 := HX3.out.2.cell 1
  have b2 := HX3.out.2.cell 2
  go_wp2_with fail
  refine (HCk.out _).mono ?_
  rintro e w4 ⟨rfl, g4⟩
  have HG4 := Lib.hid (HX3.out.1.nextB g4)
  clear g4
  go_wp2_with fail
  go_ret
  exact ⟨rfl, HG4.out.below0⟩
end
end Go.Proofs.YtjbhallhmnahbaaGreat

/-
  RingPlays: both sides begun; what both read.
-/
namespace Go.Proofs.YtjbhallhmnahbaaGreat
open Go.RowKit
set_option linter.unusedVariables false

section
variable {w w' : World} {kb : Nat} {q : BkA} {a : DevA} {P : PlanR} {B : BkS} {m j c cc rq : Nat} {D : DevS} {r : RefA}
theorem OnR.readZ (hP : OkR P) (h : OnR P D B j) (i : Nat) : (readR D (bankR P) B (slotJ P j i)).2 = 0 := by
  have hz : inP (bankR P) (slotJ P j i) := by
    rw [slotJ_N P j i hP.l1]
    have := slotN_le (j := j) (i := i) hP.l1
    exact inR P (by omega) (by omega)
  unfold readR
  rw [if_pos hz, h.live.off]
  rfl
end
end Go.Proofs.YtjbhallhmnahbaaGreat

/-
  RingPlays: the state between two acts.
-/
namespace Go.Proofs.YtjbhallhmnahbaaGreat
open Go.RowKit
set_option linter.unusedVariables false

structure RPF (w : World) (a : DevA) (r : RefA) (pb : Nat) : Prop where
  ar : ∀ x ∈ a.all, x ∉ r.all
  pa : pb ∉ a.all
  pr : pb ∉ r.all
  la : ∀ x ∈ a.all, w.heap.size ≤ x
  lr : ∀ x ∈ r.all, w.heap.size ≤ x
structure RPD (w wr : World) (a : DevA) (r : RefA) (P : PlanR) (pb : Nat) (D : DevS) (c : Nat) : Prop where
  dev : DevIs wr a D
  ref : RefIs wr r D
  bd : Bd D c
  pl : Holds wr pb #[.int .i64 P.a, .int .i64 (P.l : Int), .int .i64 P.s, .int .i64 P.psi] 57
  gr : Gr [] w wr
structure RPQ (w wr : World) (a : DevA) (r : RefA) (P : PlanR) (pb kb : Nat) (q : BkA) (rq : Nat) (B : BkS) (m j c : Nat) : Prop where
  rg : RgIs wr kb q a P B m j c
  rh : Holds wr rq (rqRow P c) 75
  qr : ∀ x ∈ kb :: q.all, x ∉ r.all
  qn : ∀ x ∈ kb :: q.all, w.heap.size ≤ x
  qp : pb ∉ kb :: q.all
  rr : rq ∉ r.all
  ra : rq ∉ a.all
  rk : rq ∉ kb :: q.all
  rp : rq ≠ pb
  rn : w.heap.size ≤ rq
section
variable {w wr w5 w6 : World} {a : DevA} {r : RefA} {P : PlanR} {pb kb rq : Nat} {D D' : DevS} {B B' : BkS} {q : BkA} {m j cs c j' cs' : Nat}
theorem RPD.fu (h : RPD w wr a r P pb D c) : Fu D c := ⟨h.bd, h.dev.ok.fu⟩
theorem RPD.mbb (h : RPD w wr a r P pb D c) : MBB D := ⟨h.dev.ok.medB, h.dev.ok.bufB⟩
theorem RPD.gr0 (h : RPD w wr a r P pb D c) (g : Gr [] wr w5) : RPD w w5 a r P pb D c := ⟨h.dev.gr0 g, h.ref.gr0 g, h.bd, h.pl.gr0 g, h.gr.trans g⟩
theorem RPQ.gr0 (h : RPQ w wr a r P pb kb q rq B m j cs) (g : Gr [] wr w5) : RPQ w w5 a r P pb kb q rq B m j cs := ⟨h.rg.gr0 g, h.rh.gr0 g, h.qr, h.qn, h.qp, h.rr, h.ra, h.rk, h.rp, h.rn⟩
theorem RPD.more (h : RPD w wr a r P pb D c) {c' : Nat} (hc : c ≤ c') : RPD w wr a r P pb D c' := ⟨h.dev, h.ref, h.bd.mono hc, h.pl, h.gr⟩
theorem RPQ.more (h : RPQ w wr a r P pb kb q rq B m j cs) {m' : Nat} (hm : m ≤ m') : RPQ w wr a r P pb kb q rq B m' j cs := ⟨h.rg.moreN hm, h.rh, h.qr, h.qn, h.qp, h.rr, h.ra, h.rk, h.rp, h.rn⟩
theorem mem_kqa {x : Nat} (hx : x ∈ kb :: (q.all ++ a.all)) : x ∈ kb :: q.all ∨ x ∈ a.all := by
  rcases List.mem_cons.1 hx with rfl | hx
  · exact .inl (by simp)
  · rcases List.mem_append.1 hx with hx | hx
    · exact .inl (by simp [hx])
    · exact .inr hx
theorem RPD.mid (h : RPD w wr a r P pb D c) (F : RPF w a r pb) (hq : RPQ w wr a r P pb kb q rq B m j cs) (g5 : Gr (kb :: (q.all ++ a.all)) wr w5) : RefIs w5 r D ∧ Holds w5 rq (rqRow P cs) 75 ∧ Gr [] w w5 :=
  ⟨h.ref.gr g5 (fun x hx hy => (mem_kqa hy).elim (fun z => hq.qr x z hx) fun z => F.ar x z hx), hq.rh.gr g5 (fun hy => (mem_kqa hy).elim hq.rk hq.ra), h.gr.nextN g5 fun x hx => .inr ((mem_kqa hx).elim (hq.qn x) (F.la x))⟩
theorem RPD.after (h : RPD w wr a r P pb D c) (F : RPF w a r pb) (hq : RPQ w wr a r P pb kb q rq B m j cs) (d5 : DevIs w5 a D') (g5 : Gr (kb :: (q.all ++ a.all)) wr w5) (r6 : RefIs w6 r D') (g6 : Gr (rq :: r.all) w5 w6) {c' : Nat} (hb : Bd D' c') : RPD w w6 a r P pb D' c' :=
  ⟨d5.gr g6 (fun x hx hy => (List.mem_cons.1 hy).elim (fun e => hq.ra (e ▸ hx)) (F.ar x hx)), r6, hb,
   (h.pl.gr g5 (fun hy => (mem_kqa hy).elim hq.qp F.pa)).gr g6 (fun hy => (List.mem_cons.1 hy).elim (fun e => hq.rp e.symm) F.pr),
   (h.mid F hq g5).2.2.nextN g6 fun x hx => .inr ((List.mem_cons.1 hx).elim (fun e => e ▸ hq.rn) (F.lr x))⟩
theorem RPQ.after (hq : RPQ w wr a r P pb kb q rq B m j cs) {m5 : Nat} (k5 : RgIs w5 kb q a P B' m5 j' cs') (h6 : Holds w6 rq (rqRow P cs') 75) (g6 : Gr (rq :: r.all) w5 w6) {m' : Nat} (hm : m5 ≤ m') : RPQ w w6 a r P pb kb q rq B' m' j' cs' :=
  ⟨(k5.gr g6 (fun hy => (List.mem_cons.1 hy).elim (fun e => hq.rk (by rw [← e]; simp)) (hq.qr kb (by simp))) (fun b hb hy => (List.mem_cons.1 hy).elim (fun e => hq.rk (by rw [← e]; simp [hb])) (hq.qr b (by simp [hb])))).moreN hm, h6, hq.qr, hq.qn, hq.qp, hq.rr, hq.ra, hq.rk, hq.rp, hq.rn⟩
theorem RPD.moved (h : RPD w wr a r P pb D c) (F : RPF w a r pb) (d5 : DevIs w5 a D') (g5 : Gr a.all wr w5) (r6 : RefIs w6 r D') (g6 : Gr r.all w5 w6) {c' : Nat} (hb : Bd D' c') : RPD w w6 a r P pb D' c' :=
  ⟨d5.gr g6 (fun x hx => F.ar x hx), r6, hb, (h.pl.gr g5 F.pa).gr g6 F.pr, (h.gr.nextN g5 fun x hx => .inr (F.la x hx)).nextN g6 fun x hx => .inr (F.lr x hx)⟩
theorem RPQ.moved (hq : RPQ w wr a r P pb kb q rq B m j cs) (g5 : Gr a.all wr w5) (g6 : Gr r.all w5 w6) : RPQ w w6 a r P pb kb q rq B m j cs :=
  ⟨(⟨hq.rg.head.gr g5 hq.rg.ka, hq.rg.bk.grD g5, hq.rg.ok, hq.rg.kq, hq.rg.ka⟩ : RgIs w5 kb q a P B m j cs).gr g6 (hq.qr kb (by simp)) (fun b hb => hq.qr b (by simp [hb])), (hq.rh.gr g5 hq.ra).gr g6 hq.rr, hq.qr, hq.qn, hq.qp, hq.rr, hq.ra, hq.rk, hq.rp, hq.rn⟩
theorem OnR.brk (hP : OkR P) (h : OnR P D B j) {k : Nat} (hk : P.a + tabZ (bankR P) ≤ (k : Int)) : OnR P { D with bad := fun i => if i = k then true else D.bad i } B j :=
  ⟨⟨h.live.off, h.live.buf⟩, h.ti.keep (bare_calm _) rfl (fun _ _ => rfl) hP.ok (fun l q1 q2 => by
    have q2' : (l : Int) < P.a + tabZ (bankR P) := q2
    show (if l = k then true else D.bad l) = false
    rw [if_neg (by omega)]
    exact h.ti.tb l q1 q2), h.reg⟩
theorem OnR.fuse (h : OnR P D B j) (f : Int) : OnR P { D with fuse := f } B j := ⟨⟨h.live.off, h.live.buf⟩, h.ti, h.reg⟩
theorem OnR.out (hP : OkR P) (h : OnR P D B j) : OffR P j { D with fuse := 0, off := true } := by
  refine ⟨rfl, fun L kp hL => ?_⟩
  have hL2 : IsPend D L := hL
  have h0 : (bootD D L kp).med = (bare D).med := boot_live kp h.live hL2
  have hm : (bootD { D with fuse := 0, off := true } L kp).med = (bare D).med := h0
  refine ⟨B, j, .inl rfl, h.ti.congr hP.ok (boot_calm _ L kp) rfl rfl hm, ?_⟩
  unfold cntZ
  rw [hm]
  exact h.reg
end
end Go.Proofs.YtjbhallhmnahbaaGreat

/-
  FlatPlays: the document's list in memory; which region and which of its lines a line is.
-/
namespace Go.Proofs.YtjbhallhmnahbaaGreat
open Go.RowKit
set_option linter.unusedVariables false

structure RfA where
  fb : Nat
  rb : Nat
  cr : Nat
  rq : Nat → Nat
def RfA.all (A : RfA) (R : Nat) : List Nat := [A.fb, A.rb] ++ (List.range R).map A.rq
def rfRow (A : RfA) (C : CfgZ) : Array Value := #[.int .i64 C.r, .int .i64 C.l, .int .i64 C.s, .int .i64 C.psi, .int .u64 (C.key : Int), .slice (some ⟨A.rb, 0, none⟩) (cR C) A.cr]
structure RfIs (w : World) (A : RfA) (C : CfgZ) (c : Nat → Nat) : Prop where
  ok : OkC C
  head : Holds w A.fb (rfRow A C) 79
  rings : ∀ q, q < cR C → w.cell? ⟨A.rb, q, none⟩ = some (.pointer (some ⟨A.rq q, 0, none⟩))
  rg : ∀ q, q < cR C → Holds w (A.rq q) (rqRow (regC C q) (c q)) 75
  dj : ∀ q q2, q < cR C → q2 < cR C → q ≠ q2 → A.rq q ≠ A.rq q2
  nr : ∀ q, q < cR C → A.rq q ≠ A.fb ∧ A.rq q ≠ A.rb
section
variable {w w' : World} {A : RfA} {C : CfgZ} {c : Nat → Nat}
theorem RfA.mem {R q : Nat} (hq : q < R) : A.rq q ∈ A.all R := by
  unfold RfA.all
  exact List.mem_append.2 (.inr (List.mem_map.2 ⟨q, List.mem_range.2 hq, rfl⟩))
theorem RfA.mem2 {R : Nat} : A.fb ∈ A.all R ∧ A.rb ∈ A.all R := by unfold RfA.all; simp
theorem RfIs.gr {bs : List Nat} (h : RfIs w A C c) (g : Gr bs w w') (hn : ∀ x ∈ A.all (cR C), x ∉ bs) : RfIs w' A C c := by
  refine ⟨h.ok, h.head.gr g (hn _ RfA.mem2.1), fun q hq => ?_, fun q hq => (h.rg q hq).gr g (hn _ (RfA.mem hq)), h.dj, h.nr⟩
  have hc := h.rings q hq
  exact (World.cell?_of_block (w := w) (g.block _ (World.block_lt_of_cell? _ _ hc) (hn _ RfA.mem2.2))).trans hc
theorem RfIs.gr0 (h : RfIs w A C c) (g : Gr [] w w') : RfIs w' A C c := h.gr g (by simp)
theorem RfIs.lt (h : RfIs w A C c) : ∀ x ∈ A.all (cR C), x < w.heap.size := by
  have h0 : 0 < cR C := by have := h.ok.nums; omega
  intro x hx
  unfold RfA.all at hx
  rcases List.mem_append.1 hx with hx | hx
  · simp at hx
    rcases hx with rfl | rfl
    · exact h.head.lt
    · exact World.block_lt_of_cell? _ _ (h.rings 0 h0)
  · obtain ⟨q, hq, rfl⟩ := List.mem_map.1 hx
    exact (h.rg q (List.mem_range.1 hq)).lt
theorem RfIs.upd {bs : List Nat} {q0 c0 : Nat} (h : RfIs w A C c) (hq0 : q0 < cR C) (g : Gr bs w w') (hn : ∀ x ∈ A.all (cR C), x ∈ bs → x = A.rq q0) (hr : Holds w' (A.rq q0) (rqRow (regC C q0) c0) 75) : RfIs w' A C (updN c q0 c0) := by
  refine ⟨h.ok, h.head.gr g (fun hx => (h.nr q0 hq0).1 (hn _ RfA.mem2.1 hx).symm), fun q hq => ?_, fun q hq => ?_, h.dj, h.nr⟩
  · have hc := h.rings q hq
    exact (World.cell?_of_block (w := w) (g.block _ (World.block_lt_of_cell? _ _ hc) (fun hx => (h.nr q0 hq0).2 (hn _ RfA.mem2.2 hx).symm))).trans hc
  · by_cases e : q = q0
    · subst e
      rw [updN_same]
      exact hr
    · rw [updN_other _ _ e]
      exact (h.rg q hq).gr g fun hx => h.dj q q0 hq hq0 e (hn _ (RfA.mem hq) hx)
theorem rto9 (h : OkC C) (q i : Nat) (hi : i < cL C) (w : World) : Calls Tryz.prog 122 #[.int .i64 (cL C : Int), .int .u64 ((keyQ C q : Nat) : Int), .int .i64 (i : Int)] w fun e w' => e = .returned (.int .i64 ((toC C q i : Nat) : Int)) ∧ w = w' := by
  obtain ⟨n1, n2, n3, n4, n5, n6, _⟩ := h.nums
  obtain ⟨h1, h2, h3⟩ := halfN_b (cL C) (by omega)
  exact rto (cL C) (keyQ C q) i _ w n5 (by omega) (Nat.mod_lt _ (by omega)) hi (goes_to _ _ _ _ hi h3)
set_option maxRecDepth 100000 in
set_option maxHeartbeats 8000000 in
theorem rplace9 (l : Nat) (h : RfIs w A C c) (hl : l < cR C * cL C) : Calls Tryz.prog 62 #[.pointer (some ⟨A.fb, 0, none⟩), .int .i64 (l : Int)] w fun e w' => e = .returned (.tuple #[.pointer (some ⟨A.rq (qL C l), 0, none⟩), .int .i64 ((iL C l : Nat) : Int)]) ∧ Gr [] w w' := by
  have hL1 : 1 ≤ cL C := by have := h.ok.nums; omega
  have hL2 : cL C ≤ 1024 := by have := h.ok.nums; omega
  have hq : l / cL C < cR C := Nat.div_lt_of_lt_mul (by rw [Nat.mul_comm]; exact hl)
  have hi : l % cL C < cL C := Nat.mod_lt _ (by omega)
  have hqr : cR C ≤ 16 := by have := h.ok.nums; omega
  have hl16 : l < 16384 := by have := h.ok.mul; omega
  have hkey := h.ok.key
  unfold qL iL
  have HTo := Lib.hid (fun W => rto9 h.ok (l / cL C) (l % cL C) hi W)
  have c0 : w.cell? ⟨A.fb, 1, none⟩ = some (.int .i64 C.l) := h.head.cell 1
  have c4 : w.cell? ⟨A.fb, 4, none⟩ = some (.int .u64 (C.key : Int)) := h.head.cell 4
  have c5 : w.cell? ⟨A.fb, 5, none⟩ = some (.slice (some ⟨A.rb, 0, none⟩) (cR C) A.cr) := h.head.cell 5
  have r0 := h.rings (l / cL C) hq
  rw [← h.ok.nums.2.1] at c0
  obtain ⟨fb, hfb⟩ : ∃ k, k = A.fb := ⟨_, rfl⟩
  obtain ⟨rb, hrb⟩ : ∃ k, k = A.rb := ⟨_, rfl⟩
  obtain ⟨cr, hcr⟩ : ∃ k, k = A.cr := ⟨_, rfl⟩
  obtain ⟨kb, hkb⟩ : ∃ k, k = A.rq (l / cL C) := ⟨_, rfl⟩
  obtain ⟨t, ht⟩ : ∃ t, t = toC C (l / cL C) (l % cL C) := ⟨_, rfl⟩
  obtain ⟨L, hL⟩ : ∃ L, L = cL C := ⟨_, rfl⟩
  obtain ⟨R, hR⟩ : ∃ R, R = cR C := ⟨_, rfl⟩
  have hmod : (l : Int) % (L : Int) = ((l % L : Nat) : Int) := by omega
  have hdiv : (l : Int).tdiv (L : Int) = ((l / L : Nat) : Int) := by rw [Int.tdiv_eq_ediv_of_nonneg (by omega)]; omega
  have htm : (l : Int).tmod (L : Int) = ((l % L : Nat) : Int) := by rw [Int.tmod_eq_emod_of_nonneg (by omega)]; omega
  obtain ⟨i, hie⟩ : ∃ i, i = l % L := ⟨_, rfl⟩
  obtain ⟨q, hqe⟩ : ∃ q, q = l / L := ⟨_, rfl⟩
  have hkq : (keyQ C (l / cL C) : Int) = IntKind.u64.wrap ((C.key : Int) + (q : Int)) := by
    rw [show ∀ x : Int, IntKind.u64.wrap x = x % 18446744073709551616 from fun x => rfl, hqe, hL]
    unfold keyQ
    omega
  rw [hkq] at HTo
  obtain ⟨key, hke⟩ : ∃ k, k = C.key := ⟨_, rfl⟩
  rw [← hke] at HTo c4
  rw [← hkb] at r0 ⊢
  rw [← ht] at HTo ⊢
  rw [← hL, ← hie] at HTo
  rw [← hL] at hL1 hL2 c0 r0 hq hi
  rw [← hR] at c5 hq hqr
  rw [← hrb] at c5 r0
  rw [← hcr] at c5
  rw [← hfb] at c0 c4 c5 ⊢
  rw [← hie] at hmod htm hi
  rw [← hqe] at hdiv hq r0
  have hqw : IntKind.i64.wrap (q : Int) = q := IntWalk.i64_in _ (by omega)
  have hqu : IntKind.u64.wrap (q : Int) = q := IntWalk.u64_in _ (by omega)
  have hiw : IntKind.i64.wrap (i : Int) = i := IntWalk.i64_in _ (by omega)
  have hqi : (q : Int) < (R : Int) := by omega
  have hq0 : (0 : Int) ≤ (q : Int) := by omega
  have hLb : ((L : Int) == 0) = false := by simp; omega
  have hLn : (L : Int) ≠ 0 := by omega
  clear h hl hkb ht hL hR hie hqe hfb hrb hcr hke hkq hkey
  go_enter Tryz.func62, Tryz.ntmps62
  go_upto_region 2 with fail
  have k0 := kp_cell c0
  have k4 := kp_cell c4
  have hne := kp_ne w
  have hltf := World.block_lt_of_cell? _ _ c5
  have hltr := World.block_lt_of_cell? _ _ r0
  refine wp_region_kp (by kernel_rfl) (by kernel_rfl) ?_
  repeat (go_big_quiet_step ((rename_i x; with_reducible exact kp_call x ((HTo.out _).mono fun e w' h => ⟨h.1, by rw [h.2]; exact Below.refl _ _⟩))))
  with_reducible refine wpQuiet_nil ?_
  rintro _ ⟨y, rfl⟩
  have gy : Gr [] w y.w := Gr.ofBelow (cs := []) y.h
  have c5 := (gy.cell0 hltf).trans c5
  have r0 := (gy.cell0 hltr).trans r0
  have HG := Lib.hid gy
  clear gy k0 k4 hne c0 c4
  generalize y.w = w3 at *
  clear y
  go_wp2_with fail
  exact bodyPost_ret (v := .tuple #[.pointer (some ⟨kb, 0, none⟩), .int .i64 (t : Int)]) (by simp [results, Tryz.results62, go_sem]) rfl ⟨rfl, HG.out⟩
end
end Go.Proofs.YtjbhallhmnahbaaGreat

/-
  FlatPlays: the document's Where, Read, Write of a list.
-/
namespace Go.Proofs.YtjbhallhmnahbaaGreat
open Go.RowKit
set_option linter.unusedVariables false

section
variable {w w' : World} {A : RfA} {C : CfgZ} {c : Nat → Nat} {r : RefA} {D : DevS} {B : Nat → BkS} {j : Nat → Nat} {cc : Nat}
theorem rq_cells {b : Nat} {P : PlanR} {cn : Nat} (h : Holds w b (rqRow P cn) 75) : w.cell? ⟨b, 0, none⟩ = some (.int .i64 P.a) ∧ w.cell? ⟨b, 1, none⟩ = some (.int .i64 (P.l : Int)) ∧ w.cell? ⟨b, 2, none⟩ = some (.int .i64 P.s) ∧ w.cell? ⟨b, 3, none⟩ = some (.int .i64 P.psi) := ⟨h.cell 0, h.cell 1, h.cell 2, h.cell 3⟩
set_option maxRecDepth 100000 in
set_option maxHeartbeats 8000000 in
theorem rfwhere9 (l : Nat) (h : RfIs w A C c) (hl : l < cR C * cL C) (hr : RefIs w r D) (hO : OnR (regC C (qL C l)) D (B (qL C l)) (j (qL C l))) (hmb : MB D) (hj : j (qL C l) ≤ 4294967295) :
    Calls Tryz.prog 32 #[.pointer (some ⟨r.rd, 0, none⟩), .pointer (some ⟨A.fb, 0, none⟩), .int .i64 (l : Int)] w fun e w' => e = .returned (.tuple #[.int .i64 (placeP (bankR (regC C (qL C l))) (B (qL C l)) (slotJ (regC C (qL C l)) (j (qL C l)) (iL C l))), .int .i64 0]) ∧ Gr [] w w' := by
  obtain ⟨hq, hi⟩ := qi_in h.ok hl
  obtain ⟨r1, r2, r3, r4, r5⟩ := h.ok.reg hq
  have HPl := Lib.hid (rplace9 l h hl)
  have HW := Lib.hid (fun W (g : Gr [] w W) => rwhere07 r1 (hr.gr0 g) hO hmb hj (iL C l) (by rw [r4]; exact hi))
  have HR := Lib.hid (fun W (g : Gr [] w W) => rq_cells ((h.gr0 g).rg (qL C l) hq))
  obtain ⟨R, hR⟩ : ∃ R, R = placeP (bankR (regC C (qL C l))) (B (qL C l)) (slotJ (regC C (qL C l)) (j (qL C l)) (iL C l)) := ⟨_, rfl⟩
  rw [← hR] at HW ⊢
  generalize A.rq (qL C l) = rq at *
  generalize regC C (qL C l) = P at *
  generalize iL C l = i at *
  generalize A.fb = fb at *
  unfold planRV at HW
  clear h hl hr hO hmb hj hq hi r1 r2 r3 r4 r5 hR
  go_enter Tryz.func32, Tryz.ntmps32
  go_wp2_with fail
  refine HPl.out.mono ?_
  rintro e w2 ⟨rfl, g2⟩
  have HG := Lib.hid g2
  obtain ⟨c0, c1, c2, c3⟩ := HR.out _ g2
  clear g2
  go_wp2_with fail
  refine (HW.out _ HG.out).mono ?_
  rintro e w3 ⟨rfl, g3⟩
  have HG3 := Lib.hid (HG.out.trans g3)
  clear g3
  go_wp2_with fail
  go_ret2
  exact ⟨rfl, HG3.out⟩
set_option maxRecDepth 100000 in
set_option maxHeartbeats 8000000 in
theorem rfread9 (l : Nat) (h : RfIs w A C c) (hl : l < cR C * cL C) (hr : RefIs w r D) (hO : OnR (regC C (qL C l)) D (B (qL C l)) (j (qL C l))) (hmb : MB D) (hj : j (qL C l) ≤ 4294967295) :
    Calls Tryz.prog 23 #[.pointer (some ⟨r.rd, 0, none⟩), .pointer (some ⟨A.fb, 0, none⟩), .int .i64 (l : Int)] w fun e w' => e = .returned (.tuple #[.string (readR D (bankR (regC C (qL C l))) (B (qL C l)) (slotJ (regC C (qL C l)) (j (qL C l)) (iL C l))).1, .int .i64 0]) ∧ Gr [] w w' := by
  obtain ⟨hq, hi⟩ := qi_in h.ok hl
  obtain ⟨r1, r2, r3, r4, r5⟩ := h.ok.reg hq
  have hm := h.ok.mul
  have HPl := Lib.hid (fun W (g : Gr [] w W) => rplace9 l (h.gr0 g) hl)
  have HW := Lib.hid (fun W (g : Gr [] w W) => rread07_in r1 (hr.gr0 g) hO hmb hj (iL C l) (by rw [r4]; exact hi))
  have HR := Lib.hid (fun W (g : Gr [] w W) => rq_cells ((h.gr0 g).rg (qL C l) hq))
  obtain ⟨R, hR⟩ : ∃ R, R = (readR D (bankR (regC C (qL C l))) (B (qL C l)) (slotJ (regC C (qL C l)) (j (qL C l)) (iL C l))).1 := ⟨_, rfl⟩
  rw [← hR] at HW ⊢
  have d0 : w.cell? ⟨A.fb, 0, none⟩ = some (.int .i64 C.r) := h.head.cell 0
  have d1 : w.cell? ⟨A.fb, 1, none⟩ = some (.int .i64 C.l) := h.head.cell 1
  obtain ⟨m1, m2, m3⟩ : IntKind.i64.wrap (C.r * C.l) = C.r * C.l ∧ (l : Int) < C.r * C.l ∧ ¬ (C.r * C.l ≤ (l : Int)) := by
    have n1 := h.ok.nums.1
    have n2 := h.ok.nums.2.1
    have e : C.r * C.l = ((cR C * cL C : Nat) : Int) := by rw [← n1, ← n2, Int.natCast_mul]
    rw [e]
    exact ⟨IntWalk.i64_in _ (by omega), by omega, by omega⟩
  have hl0 : ¬ ((l : Int) < 0) := by omega
  generalize A.rq (qL C l) = rq at *
  generalize regC C (qL C l) = P at *
  generalize iL C l = i at *
  generalize A.fb = fb at *
  unfold planRV at HW
  clear h hl hr hO hmb hj hq hi r1 r2 r3 r4 r5 hR hm
  go_enter Tryz.func23, Tryz.ntmps23
  go_upto_region 1 with fail
  have k0 := kp_cell d0
  have k1 := kp_cell d1
  have hne := kp_ne w
  refine wp_region_kp (by kernel_rfl) (by kernel_rfl) ?_
  repeat (go_big_quiet_step (fail))
  with_reducible refine wpQuiet_nil ?_
  rintro _ ⟨y, rfl⟩
  have HG0 := Lib.hid (show Gr [] w y.w from Gr.ofBelow (cs := []) y.h)
  clear k0 k1 hne d0 d1
  generalize y.w = w1 at *
  clear y
  go_wp2_with fail
  refine (HPl.out _ HG0.out).mono ?_
  rintro e w2 ⟨rfl, g2⟩
  have HG := Lib.hid (HG0.out.trans g2)
  obtain ⟨c0, c1, c2, c3⟩ := HR.out _ HG.out
  clear g2
  go_wp2_with fail
  refine (HW.out _ HG.out).mono ?_
  rintro e w3 ⟨rfl, g3⟩
  have HG3 := Lib.hid (HG.out.trans g3)
  clear g3
  go_wp2_with fail
  go_ret2
  exact ⟨rfl, HG3.out⟩
set_option maxRecDepth 100000 in
set_option maxHeartbeats 8000000 in
theorem rfread9_out (i : Int) (v : Value) (h : RfIs w A C c) (hi : i < 0 ∨ ((cR C * cL C : Nat) : Int) ≤ i) :
    Calls Tryz.prog 23 #[v, .pointer (some ⟨A.fb, 0, none⟩), .int .i64 i] w fun e w' => e = .returned (.tuple #[.string ⟨#[]⟩, .int .i64 3]) ∧ Gr [] w w' := by
  have d0 : w.cell? ⟨A.fb, 0, none⟩ = some (.int .i64 C.r) := h.head.cell 0
  have d1 : w.cell? ⟨A.fb, 1, none⟩ = some (.int .i64 C.l) := h.head.cell 1
  have hm := h.ok.mul
  have e : C.r * C.l = ((cR C * cL C : Nat) : Int) := by rw [← h.ok.nums.1, ← h.ok.nums.2.1, Int.natCast_mul]
  have m1 : IntKind.i64.wrap (C.r * C.l) = C.r * C.l := by rw [e]; exact IntWalk.i64_in _ (by omega)
  have hlt := h.head.lt
  rw [← e] at hi
  clear h hm e
  generalize A.fb = fb at *
  by_cases h0 : i < 0
  · go_enter Tryz.func23, Tryz.ntmps23
    go_upto_region 1 with fail
    have hne := kp_ne w
    refine wp_region_kp (by kernel_rfl) (by kernel_rfl) ?_
    repeat (go_big_quiet_step (fail))
    with_reducible refine wpQuiet_nil ?_
    rintro _ ⟨y, rfl⟩
    have HG0 := Lib.hid (show Gr [] w y.w from Gr.ofBelow (cs := []) y.h)
    generalize y.w = w1 at *
    go_wp2_with fail
    go_ret2
    exact ⟨rfl, HG0.out⟩
  · have h1 : C.r * C.l ≤ i := by omega
    have h2 : ¬ (i < C.r * C.l) := by omega
    clear hi
    go_enter Tryz.func23, Tryz.ntmps23
    go_upto_region 1 with fail
    have k0 := kp_cell d0
    have k1 := kp_cell d1
    have hne := kp_ne w
    refine wp_region_kp (by kernel_rfl) (by kernel_rfl) ?_
    repeat (go_big_quiet_step (fail))
    with_reducible refine wpQuiet_nil ?_
    rintro _ ⟨y, rfl⟩
    have HG0 := Lib.hid (show Gr [] w y.w from Gr.ofBelow (cs := []) y.h)
    clear k0 k1 hne d0 d1
    generalize y.w = w1 at *
    go_wp2_with fail
    go_ret2
    exact ⟨rfl, HG0.out⟩
end
end Go.Proofs.YtjbhallhmnahbaaGreat

/-
  FlatPlays: the document's Write of a list.
-/
namespace Go.Proofs.YtjbhallhmnahbaaGreat
open Go.RowKit
set_option linter.unusedVariables false

def RfPost (w : World) (A : RfA) (C : CfgZ) (r : RefA) (c : Nat → Nat) (cc q : Nat) (X : Int × DevS × BkS × Nat × Nat) (e : Ending) (w' : World) : Prop :=
  e = .returned (.int .i64 X.1) ∧ RefIs w' r X.2.1 ∧ Fu X.2.1 (cc + 4200) ∧ RfIs w' A C (updN c q X.2.2.2.2) ∧ Gr (A.all (cR C) ++ r.all) w w'
section
variable {w w' : World} {A : RfA} {C : CfgZ} {c : Nat → Nat} {r : RefA} {D : DevS} {B : Nat → BkS} {j : Nat → Nat} {cc : Nat}
theorem rf_mul (h : OkC C) : C.r * C.l = ((cR C * cL C : Nat) : Int) ∧ cR C * cL C ≤ 16384 := by
  refine ⟨by rw [← h.nums.1, ← h.nums.2.1, Int.natCast_mul], ?_⟩
  have := h.mul
  omega
set_option maxRecDepth 100000 in
set_option maxHeartbeats 8000000 in
theorem rfwrite9 (l : Nat) (s : ByteArray) (k z : Int) (X : Int × DevS × BkS × Nat × Nat) (hk : (k = -1 ∧ s.size = 64) ∨ (0 ≤ k ∧ k ≤ 7)) (h : RfIs w A C c) (hl : l < cR C * cL C) (hr : RefIs w r D) (hn : ∀ x ∈ A.all (cR C), x ∉ r.all)
    (hW : ∀ W, RefIs W r D → Holds W (A.rq (qL C l)) (rqRow (regC C (qL C l)) (c (qL C l))) 75 → Calls Tryz.prog 63 #[.pointer (some ⟨r.rd, 0, none⟩), .pointer (some ⟨A.rq (qL C l), 0, none⟩), .int .i64 ((iL C l : Nat) : Int), .string s, .int .i64 k, .int .u64 z] W (RqPost W r (regC C (qL C l)) (A.rq (qL C l)) cc X)) :
    Calls Tryz.prog 20 #[.pointer (some ⟨r.rd, 0, none⟩), .pointer (some ⟨A.fb, 0, none⟩), .int .i64 (l : Int), .string s, .int .i64 k, .int .u64 z] w (RfPost w A C r c cc (qL C l) X) := by
  obtain ⟨hq, hi⟩ := qi_in h.ok hl
  obtain ⟨hm1, hm2⟩ := rf_mul h.ok
  have HPl := Lib.hid (fun W (g : Gr [] w W) => rplace9 l (h.gr0 g) hl)
  have HH := Lib.hid h
  have HR := Lib.hid hr
  have HQ := Lib.hid hq
  have HNn := Lib.hid hn
  have HWr := Lib.hid hW
  have d0 : w.cell? ⟨A.fb, 0, none⟩ = some (.int .i64 C.r) := h.head.cell 0
  have d1 : w.cell? ⟨A.fb, 1, none⟩ = some (.int .i64 C.l) := h.head.cell 1
  have m1 : IntKind.i64.wrap (C.r * C.l) = C.r * C.l := by rw [hm1]; exact IntWalk.i64_in _ (by omega)
  have m2 : (l : Int) < C.r * C.l := by rw [hm1]; omega
  have m3 : ¬ (C.r * C.l ≤ (l : Int)) := by omega
  have hl0 : ¬ ((l : Int) < 0) := by omega
  obtain ⟨fb, hfb⟩ : ∃ fb, fb = A.fb := ⟨_, rfl⟩
  rw [← hfb] at d0 d1 HPl ⊢
  clear hW h hl hr hn hq hi hm1 hm2 hfb
  have hS : (s.size : Int) = 64 ∨ ¬ ((s.size : Int) = 64) := Classical.em _
  rcases hk with ⟨rfl, hs⟩ | ⟨hk0, hk7⟩
  · have hs2 : (s.size : Int) = 64 := by omega
    have hsn : ((s.size : Int) != 64) = false := by simp; omega
    clear hS
    go_enter Tryz.func20, Tryz.ntmps20
    go_upto_region 3 with fail
    have k0 := kp_cell d0
    have k1 := kp_cell d1
    have hne := kp_ne w
    refine wp_region_kp (by kernel_rfl) (by kernel_rfl) ?_
    repeat (go_big_quiet_step (fail))
    with_reducible refine wpQuiet_nil ?_
    rintro _ ⟨y, rfl⟩
    have HG0 := Lib.hid (show Gr [] w y.w from Gr.ofBelow (cs := []) y.h)
    clear k0 k1 hne d0 d1
    generalize y.w = w1 at *
    clear y
    go_wp2_with fail
    refine (HPl.out _ HG0.out).mono ?_
    rintro e w2 ⟨rfl, g2⟩
    have HG := Lib.hid (HG0.out.trans g2)
    clear g2
    go_wp2_with fail
    refine (HWr.out _ (HR.out.gr0 HG.out) ((HH.out.gr0 HG.out).rg _ HQ.out)).mono ?_
    rintro e w3 ⟨rfl, r3, f3, q3, g3⟩
    have HF := Lib.hid (show RefIs w3 r X.2.1 ∧ Fu X.2.1 (cc + 4200) ∧ RfIs w3 A C (updN c (qL C l) X.2.2.2.2) ∧ Gr (A.all (cR C) ++ r.all) w w3 from ⟨r3, f3, (HH.out.gr0 HG.out).upd HQ.out g3 (fun x hx hm => by
      rcases List.mem_cons.1 hm with e | e
      · exact e
      · exact absurd e (HNn.out x hx)) q3, HG.out.of0.trans (g3.mono fun x hx => by
      rcases List.mem_cons.1 hx with e | e
      · rw [e]; exact List.mem_append.2 (.inl (RfA.mem HQ.out))
      · exact List.mem_append.2 (.inr e))⟩)
    clear r3 f3 q3 g3
    go_wp2_with fail
    go_ret
    exact ⟨rfl, HF.out⟩
  · have hkn : ¬ (k < 0) := by omega
    have hk8 : ¬ (7 < k) := by omega
    clear hS
    go_enter Tryz.func20, Tryz.ntmps20
    go_upto_region 3 with fail
    have k0 := kp_cell d0
    have k1 := kp_cell d1
    have hne := kp_ne w
    refine wp_region_kp (by kernel_rfl) (by kernel_rfl) ?_
    repeat (go_big_quiet_step (fail))
    with_reducible refine wpQuiet_nil ?_
    rintro _ ⟨y, rfl⟩
    have HG0 := Lib.hid (show Gr [] w y.w from Gr.ofBelow (cs := []) y.h)
    clear k0 k1 hne d0 d1
    generalize y.w = w1 at *
    clear y
    go_wp2_with fail
    refine (HPl.out _ HG0.out).mono ?_
    rintro e w2 ⟨rfl, g2⟩
    have HG := Lib.hid (HG0.out.trans g2)
    clear g2
    go_wp2_with fail
    refine (HWr.out _ (HR.out.gr0 HG.out) ((HH.out.gr0 HG.out).rg _ HQ.out)).mono ?_
    rintro e w3 ⟨rfl, r3, f3, q3, g3⟩
    have HF := Lib.hid (show RefIs w3 r X.2.1 ∧ Fu X.2.1 (cc + 4200) ∧ RfIs w3 A C (updN c (qL C l) X.2.2.2.2) ∧ Gr (A.all (cR C) ++ r.all) w w3 from ⟨r3, f3, (HH.out.gr0 HG.out).upd HQ.out g3 (fun x hx hm => by
      rcases List.mem_cons.1 hm with e | e
      · exact e
      · exact absurd e (HNn.out x hx)) q3, HG.out.of0.trans (g3.mono fun x hx => by
      rcases List.mem_cons.1 hx with e | e
      · rw [e]; exact List.mem_append.2 (.inl (RfA.mem HQ.out))
      · exact List.mem_append.2 (.inr e))⟩)
    clear r3 f3 q3 g3
    go_wp2_with fail
    go_ret
    exact ⟨rfl, HF.out⟩
set_option maxRecDepth 100000 in
set_option maxHeartbeats 8000000 in
theorem rfwrite9_arg (i : Int) (s : ByteArray) (k z : Int) (u v : Value) (hk : (k = -1 ∧ s.size ≠ 64 ∧ s.size ≤ maxLen) ∨ 8 ≤ k) (w : World) :
    Calls Tryz.prog 20 #[u, v, .int .i64 i, .string s, .int .i64 k, .int .u64 z] w fun e w' => e = .returned (.int .i64 2) ∧ w' = w := by
  rcases hk with ⟨rfl, hs, hm⟩ | hk
  · have hsn : ((s.size : Int) != 64) = true := by simp; omega
    go_enter Tryz.func20, Tryz.ntmps20
    go_wp2_with fail
    go_ret
    exact ⟨rfl, rfl⟩
  · have hkn : ¬ (k < 0) := by omega
    have hk7 : 7 < k := by omega
    go_enter Tryz.func20, Tryz.ntmps20
    go_wp2_with fail
    go_ret
    exact ⟨rfl, rfl⟩
set_option maxRecDepth 100000 in
set_option maxHeartbeats 8000000 in
theorem rfwrite9_out (i : Int) (s : ByteArray) (k z : Int) (u : Value) (hk : (k = -1 ∧ s.size = 64) ∨ (0 ≤ k ∧ k ≤ 7)) (h : RfIs w A C c) (hi : i < 0 ∨ ((cR C * cL C : Nat) : Int) ≤ i) :
    Calls Tryz.prog 20 #[u, .pointer (some ⟨A.fb, 0, none⟩), .int .i64 i, .string s, .int .i64 k, .int .u64 z] w fun e w' => e = .returned (.int .i64 3) ∧ Gr [] w w' := by
  obtain ⟨hm1, hm2⟩ := rf_mul h.ok
  have d0 : w.cell? ⟨A.fb, 0, none⟩ = some (.int .i64 C.r) := h.head.cell 0
  have d1 : w.cell? ⟨A.fb, 1, none⟩ = some (.int .i64 C.l) := h.head.cell 1
  have m1 : IntKind.i64.wrap (C.r * C.l) = C.r * C.l := by rw [hm1]; exact IntWalk.i64_in _ (by omega)
  rw [← hm1] at hi
  generalize A.fb = fb at *
  clear h hm1 hm2
  rcases hk with ⟨rfl, hs⟩ | ⟨hk0, hk7⟩
  · have hs2 : (s.size : Int) = 64 := by omega
    have hsn : ((s.size : Int) != 64) = false := by simp; omega
    by_cases h0 : i < 0
    · go_enter Tryz.func20, Tryz.ntmps20
      go_upto_region 3 with fail
      have hne := kp_ne w
      refine wp_region_kp (by kernel_rfl) (by kernel_rfl) ?_
      repeat (go_big_quiet_step (fail))
      with_reducible refine wpQuiet_nil ?_
      rintro _ ⟨y, rfl⟩
      have HG0 := Lib.hid (show Gr [] w y.w from Gr.ofBelow (cs := []) y.h)
      generalize y.w = w1 at *
      go_wp2_with fail
      go_ret
      exact ⟨rfl, HG0.out⟩
    · have h1 : C.r * C.l ≤ i := by omega
      have h2 : ¬ (i < C.r * C.l) := by omega
      clear hi
      go_enter Tryz.func20, Tryz.ntmps20
      go_upto_region 3 with fail
      have k0 := kp_cell d0
      have k1 := kp_cell d1
      have hne := kp_ne w
      refine wp_region_kp (by kernel_rfl) (by kernel_rfl) ?_
      repeat (go_big_quiet_step (fail))
      with_reducible refine wpQuiet_nil ?_
      rintro _ ⟨y, rfl⟩
      have HG0 := Lib.hid (show Gr [] w y.w from Gr.ofBelow (cs := []) y.h)
      clear k0 k1 hne d0 d1
      generalize y.w = w1 at *
      go_wp2_with fail
      go_ret
      exact ⟨rfl, HG0.out⟩
  · have hkn : ¬ (k < 0) := by omega
    have hk8 : ¬ (7 < k) := by omega
    by_cases h0 : i < 0
    · go_enter Tryz.func20, Tryz.ntmps20
      go_upto_region 3 with fail
      have hne := kp_ne w
      refine wp_region_kp (by kernel_rfl) (by kernel_rfl) ?_
      repeat (go_big_quiet_step (fail))
      with_reducible refine wpQuiet_nil ?_
      rintro _ ⟨y, rfl⟩
      have HG0 := Lib.hid (show Gr [] w y.w from Gr.ofBelow (cs := []) y.h)
      generalize y.w = w1 at *
      go_wp2_with fail
      go_ret
      exact ⟨rfl, HG0.out⟩
    · have h1 : C.r * C.l ≤ i := by omega
      have h2 : ¬ (i < C.r * C.l) := by omega
      clear hi
      go_enter Tryz.func20, Tryz.ntmps20
      go_upto_region 3 with fail
      have k0 := kp_cell d0
      have k1 := kp_cell d1
      have hne := kp_ne w
      refine wp_region_kp (by kernel_rfl) (by kernel_rfl) ?_
      repeat (go_big_quiet_step (fail))
      with_reducible refine wpQuiet_nil ?_
      rintro _ ⟨y, rfl⟩
      have HG0 := Lib.hid (show Gr [] w y.w from Gr.ofBelow (cs := []) y.h)
      clear k0 k1 hne d0 d1
      generalize y.w = w1 at *
      go_wp2_with fail
      go_ret
      exact ⟨rfl, HG0.out⟩
end
end Go.Proofs.YtjbhallhmnahbaaGreat
