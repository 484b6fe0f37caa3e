/-
  PkBm: RhD, RhE.
-/
import Derived.Test.YtjbhallhmnahbaaGreatPkBl

set_option linter.unusedVariables false

/-
  RingPlays, pure: a region that is on stays on, or the power fails; what it is behind Boot.
-/
namespace Go.Proofs.YtjbhallhmnahbaaGreat
open Go.RowKit
set_option linter.unusedVariables false

def OffR (P : PlanR) (j : Nat) (D : DevS) : Prop := D.off = true ∧ ∀ L kp, IsPend D L → ∃ (B : BkS) (j2 : Nat), (j2 = j ∨ j2 = j + 1) ∧ TI (bankR P) (bootD D L kp) B ∧ cntZ (bankR P) B (bootD D L kp) ((P.l : Int) + 1) 0 = pkN P j2
section
variable {P : PlanR} {D E : DevS} {B B' : BkS} {j l0 : Nat} {s : ByteArray} {i e : Int} {C : (Nat → Nat) → Prop}
theorem OnR.rgc (h : OnR P D B j) : RgC P (bare D) B j (fun i k => cntZ (bankR P) B D ((slotN P.l j i : Nat) : Int) k) := ⟨h.ti, h.reg, fun _ _ _ _ => rfl⟩
theorem OnR.wrl (hP : OkR P) (h : OnR P D B j) (h0 : 0 ≤ i) (h1 : i ≤ (P.l : Int)) (hp : placeP (bankR P) B i = (l0 : Int)) (x : WrL (bankR P) i l0 s D B C e E B') : (e ≠ 6 → OnR P E B' j) ∧ (e = 6 → OffR P j E) ∧ E.n = D.n := by
  have hi := inR P (z := i) h0 (by omega)
  have key : ∀ {E2 : DevS} {B2 : BkS} {G : (Nat → Nat) → Prop}, Kept (bankR P) i l0 D B E2 B2 G → cntZ (bankR P) B2 E2 ((P.l : Int) + 1) 0 = pkN P j := fun k => by
    rw [(k.cnt h.ti hP.ok hi hp).1 _ (inR P (by omega) (by omega)) (by omega) 0 (by omega)]
    exact h.reg
  rcases x with ⟨rfl, a, b⟩ | ⟨rfl, a, b⟩ | ⟨rfl, a, b, c, d⟩
  · exact ⟨fun _ => ⟨a, b.ti, show cntZ (bankR P) B' (bare E) ((P.l : Int) + 1) 0 = _ from key b⟩, fun q => by omega, b.n⟩
  · exact ⟨fun _ => ⟨a, b.ti, show cntZ (bankR P) B' (bare E) ((P.l : Int) + 1) 0 = _ from key b⟩, fun q => by omega, b.n⟩
  · exact ⟨fun q => absurd rfl q, fun _ => ⟨a, fun L kp hL => by
      obtain ⟨B3, z⟩ := d L kp hL
      exact ⟨B3, j, .inl rfl, z.ti, key z⟩⟩, b⟩
theorem OnR.line (hP : OkR P) (h : OnR P D B j) (h0 : 0 ≤ i) (h1 : i ≤ (P.l : Int)) (hs : s.size = 64) :
    ((writeS (bankR P) i s D B).1 ≠ 6 → OnR P (writeS (bankR P) i s D B).2.1 (writeS (bankR P) i s D B).2.2 j) ∧ ((writeS (bankR P) i s D B).1 = 6 → OffR P j (writeS (bankR P) i s D B).2.1) ∧ (writeS (bankR P) i s D B).2.1.n = D.n := by
  obtain ⟨l0, e, E, B', q1, q2, q3⟩ := write_last h.ti h.live hP.ok (inR P h0 (by omega)) hs
  rw [q2]
  exact h.wrl hP h0 h1 q1 q3
theorem OnR.word (hP : OkR P) (hmb : MB D) (h : OnR P D B j) (h0 : 0 ≤ i) (h1 : i ≤ (P.l : Int)) {k v : Nat} (hk : k < 8) (hv : v < 18446744073709551616) :
    ((writeWordS (bankR P) i (k : Int) v D B).1 ≠ 6 → OnR P (writeWordS (bankR P) i (k : Int) v D B).2.1 (writeWordS (bankR P) i (k : Int) v D B).2.2 j) ∧ ((writeWordS (bankR P) i (k : Int) v D B).1 = 6 → OffR P j (writeWordS (bankR P) i (k : Int) v D B).2.1) ∧ (writeWordS (bankR P) i (k : Int) v D B).2.1.n = D.n := by
  obtain ⟨l0, e, E, B', q1, q2, q3⟩ := ww_last h.ti h.live hmb hv hP.ok (inR P h0 (by omega)) hk
  rw [q2]
  exact h.wrl hP h0 h1 q1 q3
theorem OnR.move (hP : OkR P) (hmb : MB D) (hbb : MBB D) (h : OnR P D B j) (hj : j < 4294967295) :
    ((movZ P D B j).1 = 0 → OnR P (movZ P D B j).2.1 (movZ P D B j).2.2 (j + 1)) ∧ ((movZ P D B j).1 ≠ 0 → (movZ P D B j).1 ≠ 6 → OnR P (movZ P D B j).2.1 (movZ P D B j).2.2 j) ∧ ((movZ P D B j).1 = 6 → OffR P j (movZ P D B j).2.1) ∧ MBB (movZ P D B j).2.1 := by
  have hle3 : toN P.l j ≤ P.l := by unfold toN; omega
  have hle4 : fromN P.l j ≤ P.l := by unfold fromN; split <;> omega
  have hif : inP (bankR P) (fromI P j) := by rw [fromI_N]; exact inR P (by omega) (by omega)
  have hir : inP (bankR P) ((P.l : Int) + 1) := inR P (by omega) (by omega)
  obtain ⟨lf, pf, _, _, _⟩ := h.ti.place hP.ok hif
  have hread : readR D (bankR P) B (fromI P j) = (⟨(getT D lf).toArray⟩, 0) := by
    unfold readR
    rw [if_pos hif, h.live.off, pf, Int.toNat_natCast]
    rfl
  have hT64 := line_size D lf
  unfold movZ
  rw [hread]
  simp only
  obtain ⟨T, hT⟩ : ∃ T : ByteArray, T = ⟨(getT D lf).toArray⟩ := ⟨_, rfl⟩
  rw [← hT] at hT64 ⊢
  obtain ⟨w0, w6, wn⟩ := h.line hP (i := toI P j) (s := T) (by rw [toI_N]; omega) (by rw [toI_N]; omega) hT64
  have wb := hbb.write (bankR P) (i := toI P j) T B (by rw [toI_N]; have := hP.l2; omega)
  obtain ⟨⟨e1, D1, B1⟩, hX⟩ : ∃ X, writeS (bankR P) (toI P j) T D B = X := ⟨_, rfl⟩
  rw [hX] at w0 w6 wn wb ⊢
  simp only at w0 w6 wn wb ⊢
  by_cases c : e1 = 0
  · rw [if_pos c]
    have o1 := w0 (by omega)
    obtain ⟨hv1, hv2⟩ := pkN_val hP (j + 1) (by omega)
    have wb2 := wb.ww (bankR P) (i := (P.l : Int) + 1) 0 B1 (by have := hP.l2; omega) hv2
    obtain ⟨l2, e2, D2, B2, p2, x2, y2⟩ := ww_last (k := 0) (v := pkN P (j + 1)) o1.ti o1.live wb.1 hv2 hP.ok hir (by omega)
    have x2' : writeWordS (bankR P) ((P.l : Int) + 1) 0 (pkN P (j + 1)) D1 B1 = (e2, D2, B2) := x2
    rw [x2'] at wb2 ⊢
    simp only at wb2 ⊢
    have hold : D1.med (8 * l2 + 0) = pkN P j := by
      have := o1.reg
      unfold cntZ at this
      rw [p2, Int.toNat_natCast] at this
      exact this
    have htx : wdL (textU (updF (fun i => D1.med (8 * l2 + i)) 0 (pkN P (j + 1)))).data.toList 0 = pkN P (j + 1) := by
      rw [wd_textU8 (fun i hi => by
        unfold updF
        split
        · exact hv2
        · exact wb.1 _) 0 (by omega)]
      rfl
    rcases y2 with ⟨rfl, a, b⟩ | ⟨rfl, a, b⟩ | ⟨rfl, a, b, c2, d⟩
    · refine ⟨fun _ => ⟨a, b.ti, ?_⟩, fun q => absurd rfl q, fun q => by omega, wb2⟩
      exact ((b.cnt o1.ti hP.ok hir p2).2 0 (by omega)).trans htx
    · refine ⟨fun q => by omega, fun _ _ => ⟨a, b.ti, ?_⟩, fun q => by omega, wb2⟩
      exact ((b.cnt o1.ti hP.ok hir p2).2 0 (by omega)).trans hold
    · refine ⟨fun q => by omega, fun _ q => absurd rfl q, fun _ => ⟨a, fun L kp hL => ?_⟩, wb2⟩
      obtain ⟨B3, z⟩ := d L kp hL
      rcases (z.cnt o1.ti hP.ok hir p2).2 with g | g
      · exact ⟨B3, j, .inl rfl, z.ti, (g 0 (by omega)).trans hold⟩
      · exact ⟨B3, j + 1, .inr rfl, z.ti, (g 0 (by omega)).trans rfl⟩
  · rw [if_neg c]
    exact ⟨fun q => absurd q c, fun _ q => w0 q, w6, wb⟩
theorem OnR.boot (hP : OkR P) (h : OnR P D B j ∨ OffR P j D) {L : List Nat} (kp : Nat → Bool) (hL : IsPend D L) : ∃ (B2 : BkS) (j2 : Nat), (j2 = j ∨ j2 = j + 1) ∧ OnR P (bootD D L kp) B2 j2 ∧ TI (bankR P) (bootD D L kp) B2 := by
  rcases h with h | h
  · have hm := boot_live kp h.live hL
    refine ⟨B, j, .inl rfl, ⟨⟨rfl, fun _ => rfl⟩, h.ti.congr hP.ok (bare_calm _) rfl rfl hm, ?_⟩, h.ti.congr hP.ok (boot_calm D L kp) rfl rfl hm⟩
    unfold cntZ
    rw [hm]
    exact h.reg
  · obtain ⟨B2, j2, a, b, c⟩ := h.2 L kp hL
    exact ⟨B2, j2, a, ⟨⟨rfl, fun _ => rfl⟩, b.congr hP.ok (bare_calm _) rfl rfl rfl, c⟩, b⟩
end
theorem OnR.regZ {P : PlanR} {D : DevS} {B : BkS} {j c i0 : Nat} (hP : OkR P) (hmb : MB D) (hbb : MBB D) (h : OnR P D B j) (hj : j < 4294967295) (hi : i0 < P.l) {f : Int → DevS → BkS → Int × DevS × BkS}
    (hf : ∀ (z : Int) (D : DevS) (B : BkS) (j : Nat), 0 ≤ z → z ≤ (P.l : Int) → MB D → OnR P D B j → ((f z D B).1 ≠ 6 → OnR P (f z D B).2.1 (f z D B).2.2 j) ∧ ((f z D B).1 = 6 → OffR P j (f z D B).2.1) ∧ (f z D B).2.1.n = D.n) :
    ((Go.Proofs.YtjbhallhmnahbaaGreat.regZ P i0 f D B j c).1 ≠ 6 → OnR P (Go.Proofs.YtjbhallhmnahbaaGreat.regZ P i0 f D B j c).2.1 (Go.Proofs.YtjbhallhmnahbaaGreat.regZ P i0 f D B j c).2.2.1 (Go.Proofs.YtjbhallhmnahbaaGreat.regZ P i0 f D B j c).2.2.2.1) ∧ ((Go.Proofs.YtjbhallhmnahbaaGreat.regZ P i0 f D B j c).1 = 6 → OffR P (Go.Proofs.YtjbhallhmnahbaaGreat.regZ P i0 f D B j c).2.2.2.1 (Go.Proofs.YtjbhallhmnahbaaGreat.regZ P i0 f D B j c).2.1) ∧
      (Go.Proofs.YtjbhallhmnahbaaGreat.regZ P i0 f D B j c).2.1.n = D.n ∧ (Go.Proofs.YtjbhallhmnahbaaGreat.regZ P i0 f D B j c).2.2.2.1 ≤ j + 1 := by
  have sl : ∀ j2, 0 ≤ slotJ P j2 i0 ∧ slotJ P j2 i0 ≤ (P.l : Int) := fun j2 => by
    rw [slotJ_N P j2 i0 hP.l1]
    have := slotN_le (j := j2) (i := i0) hP.l1
    omega
  unfold Go.Proofs.YtjbhallhmnahbaaGreat.regZ
  by_cases hc : P.psi ≤ (c : Int)
  · rw [if_pos hc]
    obtain ⟨a1, a2, a3, a4⟩ := h.move hP hmb hbb hj
    obtain ⟨_, _, an, _⟩ := move_last hP h.live hmb h.rgc hj
    by_cases hM : (movZ P D B j).1 = 0
    · rw [if_pos hM]
      obtain ⟨b1, b2, b3⟩ := hf (slotJ P (j + 1) i0) _ _ (j + 1) (sl _).1 (sl _).2 a4.1 (a1 hM)
      exact ⟨b1, b2, b3.trans an, Nat.le_refl _⟩
    · rw [if_neg hM]
      exact ⟨fun q => a2 hM q, a3, an, by show j ≤ j + 1; omega⟩
  · rw [if_neg hc]
    obtain ⟨b1, b2, b3⟩ := hf (slotJ P j i0) _ _ j (sl _).1 (sl _).2 hmb h
    exact ⟨b1, b2, b3, by show j ≤ j + 1; omega⟩
end Go.Proofs.YtjbhallhmnahbaaGreat

/-
  RingPlays: the document's move.
-/
namespace Go.Proofs.YtjbhallhmnahbaaGreat
open Go.RowKit
set_option linter.unusedVariables false

section
variable {w w' : World} {r : RefA} {D : DevS} {P : PlanR} {B : BkS} {j c cc rq : Nat}
theorem rnext07 (hP : OkR P) (W : World) :
    Calls Tryz.prog 170 #[.int .i64 (sAt P.l j), .int .i64 (gAt P.l j), .int .i64 (P.l : Int)] W fun e w' =>
      e = .returned (.tuple #[.int .i64 (sAt P.l (j + 1)), .int .i64 (gAt P.l (j + 1)), .int .i64 (fromI P j), .int .i64 (toI P j)]) ∧ w' = W := by
  have hr := at_right P.l j hP.l1 hP.l2
  unfold fromI toI
  by_cases hg : 0 < gAt P.l j
  · obtain ⟨e1, e2⟩ := at_pos P.l j hP.l1 hg
    rw [e1, e2, if_pos hg]
    exact (rnext_pos _ _ _ W hr hg).mono fun e w' ⟨he, hb⟩ => ⟨he, hb.symm⟩
  · have h0 : gAt P.l j = 0 := by have := hr.2.2.2.2.1; omega
    obtain ⟨e1, e2⟩ := at_zero P.l j hP.l1 h0
    rw [e1, e2, if_neg hg, h0]
    rw [h0] at hr
    exact (rnext_zero _ _ W hr).mono fun e w' ⟨he, hb⟩ => ⟨he, hb.symm⟩
def rqRow (P : PlanR) (c : Nat) : Array Value := #[.int .i64 P.a, .int .i64 (P.l : Int), .int .i64 P.s, .int .i64 P.psi, .int .i64 (c : Int)]
def MvPost (w : World) (r : RefA) (P : PlanR) (rq cc c : Nat) (X : Int × DevS × BkS) (e : Ending) (w' : World) : Prop :=
  e = .returned (.int .i64 X.1) ∧ RefIs w' r X.2.1 ∧ Fu X.2.1 (cc + 2800) ∧ Holds w' rq (rqRow P (if X.1 = 0 then 0 else c)) 75 ∧ Gr (rq :: r.all) w w'
set_option maxRecDepth 100000 in
set_option maxHeartbeats 16000000 in
theorem rmove07 (hP : OkR P) (h : RefIs w r D) (hq : Holds w rq (rqRow P c) 75) (hrq : rq ∉ r.all) (hO : OnR P D B j) (hbb : MBB D) (hb : Fu D cc) (hcc : cc < 500000) (hj : j < 4294967295) :
    Calls Tryz.prog 123 #[.pointer (some ⟨r.rd, 0, none⟩), .pointer (some ⟨rq, 0, none⟩)] w (MvPost w r P rq cc c (movZ P D B j)) := by
  have hle3 : toN P.l j ≤ P.l := by unfold toN; omega
  have hle4 : fromN P.l j ≤ P.l := by unfold fromN; split <;> omega
  have hif : inP (bankR P) (fromI P j) := by rw [fromI_N]; exact inR P (by omega) (by omega)
  obtain ⟨lf, pf, _, _, _⟩ := hO.ti.place hP.ok hif
  have hread : readR D (bankR P) B (fromI P j) = (⟨(getT D lf).toArray⟩, 0) := by
    unfold readR
    rw [if_pos hif, hO.live.off, pf, Int.toNat_natCast]
    rfl
  have hT64 := line_size D lf
  have HLi := Lib.hid (fun W (q : RefIs W r D) => show Calls Tryz.prog 77 #[.pointer (some ⟨r.rd, 0, none⟩), .agg #[.int .i64 P.a, .int .i64 ((P.l : Int) + 2), .int .i64 P.s], .int .i64 (fromI P j)] W _ from rline07 (p := bankR P) (fromI P j) q hO.live hO.ti hbb.1 hP.ok hif)
  have hmz : movZ P D B j = if (writeS (bankR P) (toI P j) (readR D (bankR P) B (fromI P j)).1 D B).1 = 0 then writeWordS (bankR P) ((P.l : Int) + 1) 0 (pkN P (j + 1)) (writeS (bankR P) (toI P j) (readR D (bankR P) B (fromI P j)).1 D B).2.1 (writeS (bankR P) (toI P j) (readR D (bankR P) B (fromI P j)).1 D B).2.2 else writeS (bankR P) (toI P j) (readR D (bankR P) B (fromI P j)).1 D B := rfl
  obtain ⟨M, hM⟩ : ∃ M, M = movZ P D B j := ⟨_, rfl⟩
  rw [← hM] at hmz ⊢
  rw [hread] at HLi hmz
  simp only at HLi hmz
  obtain ⟨T, hT⟩ : ∃ T : ByteArray, T = ⟨(getT D lf).toArray⟩ := ⟨_, rfl⟩
  rw [← hT] at hT64 HLi hmz
  obtain ⟨w0, w6, wn⟩ := hO.line hP (i := toI P j) (s := T) (by rw [toI_N]; omega) (by rw [toI_N]; omega) hT64
  have wb := hbb.write (bankR P) (i := toI P j) T B (by rw [toI_N]; have := hP.l2; omega)
  have HW1 := Lib.hid (fun W (q : RefIs W r D) => show Calls Tryz.prog 125 #[.pointer (some ⟨r.rd, 0, none⟩), .agg #[.int .i64 P.a, .int .i64 ((P.l : Int) + 2), .int .i64 P.s], .int .i64 (toI P j), .string T] W _ from rwrite_any (p := bankR P) (toI P j) T q hO.live hO.ti hbb.1 hb (by omega) hP.ok (by rw [hT64]; unfold maxLen; omega))
  obtain ⟨⟨e1, D1, B1⟩, hX⟩ : ∃ X, writeS (bankR P) (toI P j) T D B = X := ⟨_, rfl⟩
  rw [hX] at w0 w6 wn wb HW1 hmz
  simp only at w0 w6 wn wb hmz
  obtain ⟨hv1, hv2⟩ := pkN_val hP (j + 1) (by omega)
  have HW2 := Lib.hid (fun (he : e1 = 0) W (q : RefIs W r D1) (hf : Fu D1 (cc + 1400)) => show Calls Tryz.prog 103 #[.pointer (some ⟨r.rd, 0, none⟩), .agg #[.int .i64 P.a, .int .i64 ((P.l : Int) + 2), .int .i64 P.s], .int .i64 ((P.l : Int) + 1), .int .i64 0, .int .u64 (pkI (sAt P.l (j + 1)) (gAt P.l (j + 1)) ((j + 1 : Nat) : Int))] W _ by
    rw [← hv1]
    exact rww_any (p := bankR P) ((P.l : Int) + 1) 0 (pkN P (j + 1)) q (w0 (by omega)).live (w0 (by omega)).ti wb.1 hf (by omega) hP.ok hv2)
  have HSt := Lib.hid (fun W (q : RefIs W r D) => show Calls Tryz.prog 33 #[.pointer (some ⟨r.rd, 0, none⟩), .agg #[.int .i64 P.a, .int .i64 (P.l : Int), .int .i64 P.s, .int .i64 P.psi]] W _ from rstate07 hP q hO hbb.1 (by omega))
  have HBk := Lib.hid (fun W => show Calls Tryz.prog 67 #[.agg #[.int .i64 P.a, .int .i64 (P.l : Int), .int .i64 P.s, .int .i64 P.psi]] W _ from rbank07 hP W)
  have HNx := Lib.hid (fun W => rnext07 (P := P) (j := j) hP W)
  have HPk := Lib.hid (fun W => rpack_any (sAt P.l (j + 1)) (gAt P.l (j + 1)) ((j + 1 : Nat) : Int) W (by omega))
  have HMZ := Lib.hid hmz
  have HH := Lib.hid h
  have HQ := Lib.hid hq
  have HSEP := Lib.hid hrq
  have hl2 := hP.l2
  have q0 := hq.cell 0
  have q1 := hq.cell 1
  have q2 := hq.cell 2
  have q3 := hq.cell 3
  unfold rqRow at q0 q1 q2 q3
  obtain ⟨S, hS⟩ : ∃ S : Int, sAt P.l j = S := ⟨_, rfl⟩
  obtain ⟨Gg, hGg⟩ : ∃ G : Int, gAt P.l j = G := ⟨_, rfl⟩
  obtain ⟨S2, hS2⟩ : ∃ S : Int, sAt P.l (j + 1) = S := ⟨_, rfl⟩
  obtain ⟨G2, hG2⟩ : ∃ G : Int, gAt P.l (j + 1) = G := ⟨_, rfl⟩
  obtain ⟨J1, hJ1⟩ : ∃ J : Int, (j : Int) = J := ⟨_, rfl⟩
  obtain ⟨J2, hJ2⟩ : ∃ J : Int, ((j + 1 : Nat) : Int) = J := ⟨_, rfl⟩
  obtain ⟨ff, hff⟩ : ∃ f : Int, fromI P j = f := ⟨_, rfl⟩
  obtain ⟨tt, htt⟩ : ∃ f : Int, toI P j = f := ⟨_, rfl⟩
  rw [hS, hGg] at HSt HNx
  rw [hS2, hG2] at HNx HPk HW2
  rw [hJ1] at HSt
  rw [hJ2] at HPk HW2
  rw [hff] at HNx HLi
  rw [htt] at HNx HW1
  obtain ⟨pk, hpk⟩ : ∃ p : Int, pkI S2 G2 J2 = p := ⟨_, rfl⟩
  rw [hpk] at HPk HW2
  have hw1 : IntKind.i64.wrap ((P.l : Int) + 1) = (P.l : Int) + 1 := IntWalk.i64_in _ (by omega)
  have hu1 : IntKind.u64.wrap (J1 + 1) = J2 := by
    rw [IntWalk.u64_in _ (by omega)]
    omega
  have hu2 : J2 % 4294967296 = J2 := by omega
  have hu3 : J2.tmod 4294967296 = J2 := by rw [Int.tmod_eq_emod_of_nonneg (by omega)]; exact hu2
  clear hM hle3 hle4 hif pf hread hT64 hmz hT w0 w6 wn wb hX hv1 hv2 h hq hrq hO hbb hb hcc hj hS hGg hS2 hG2 hJ1 hJ2 hff htt hpk hl2 hP
  unfold planV bankR at HBk
  simp only at HBk
  go_enter Tryz.func123, Tryz.ntmps123
  go_upto_region 2 with fail
  have hx := Holds.new w #[.int .i64 P.a, .int .i64 (P.l : Int), .int .i64 P.s, .int .i64 P.psi] 57
  have ga := (Gr.refl [] w).alloc (Obj.cells #[.int .i64 P.a, .int .i64 (P.l : Int), .int .i64 P.s, .int .i64 P.psi] 57)
  have HX := Lib.hid (And.intro hx ga)
  have HPB := Lib.hid (show w.heap.size ∉ r.all from fun e => by have := HH.out.lt _ e; omega)
  clear hx ga q0 q1 q2 q3
  generalize (w.alloc (Obj.cells #[.int .i64 P.a, .int .i64 (P.l : Int), .int .i64 P.s, .int .i64 P.psi] 57)) = w1 at *
  obtain ⟨pb, hpb⟩ : ∃ pb, w.heap.size = pb := ⟨_, rfl⟩
  rw [hpb] at HX HPB ⊢
  clear hpb
  have c0 := HX.out.1.cell 0
  have c1 := HX.out.1.cell 1
  have c2 := HX.out.1.cell 2
  have c3 := HX.out.1.cell 3
  go_wp2_with fail
  refine (HBk.out _).mono ?_
  rintro e w2 ⟨rfl, g2⟩
  have HX2 := Lib.hid (And.intro (HX.out.1.gr0 g2) (HX.out.2.trans g2))
  clear g2 c0 c1 c2 c3 HX HBk
  go_upto_region 3 with fail
  have hb := Holds.new w2 #[.int .i64 P.a, .int .i64 ((P.l : Int) + 2), .int .i64 P.s] 138
  have ga := (Gr.refl [] w2).alloc (Obj.cells #[.int .i64 P.a, .int .i64 ((P.l : Int) + 2), .int .i64 P.s] 138)
  have HX3 := Lib.hid (And.intro (HX2.out.1.gr0 ga) (And.intro (HX2.out.2.trans ga) hb))
  have HBB := Lib.hid (show w2.heap.size ∉ r.all from fun e => by have := HH.out.lt _ e; have := HX2.out.2.size; omega)
  clear hb ga HX2
  generalize (w2.alloc (Obj.cells #[.int .i64 P.a, .int .i64 ((P.l : Int) + 2), .int .i64 P.s] 138)) = w3 at *
  obtain ⟨bb, hbb⟩ : ∃ bb, w2.heap.size = bb := ⟨_, rfl⟩
  rw [hbb] at HX3 HBB ⊢
  clear hbb
  have c0 := HX3.out.1.cell 0
  have c1 := HX3.out.1.cell 1
  have c2 := HX3.out.1.cell 2
  have c3 := HX3.out.1.cell 3
  go_wp2_with fail
  refine (HSt.out _ (HH.out.gr0 HX3.out.2.1)).mono ?_
  rintro e w4 ⟨rfl, g4⟩
  have HX4 := Lib.hid (And.intro (HX3.out.1.gr0 g4) (And.intro (HX3.out.2.1.trans g4) (HX3.out.2.2.gr0 g4)))
  clear g4 c0 c1 c2 c3 HX3 HSt
  have c1 := HX4.out.1.cell 1
  go_wp2_with fail
  refine (HNx.out _).mono ?_
  rintro e w5 ⟨rfl, rfl⟩
  have b0 := HX4.out.2.2.cell 0
  have b1 := HX4.out.2.2.cell 1
  have b2 := HX4.out.2.2.cell 2
  clear c1 HNx
  go_wp2_with fail
  refine (HLi.out _ (HH.out.gr0 HX4.out.2.1)).mono ?_
  rintro e w6 ⟨rfl, g6⟩
  have HX6 := Lib.hid (And.intro (HX4.out.1.gr0 g6) (And.intro (HX4.out.2.1.trans g6) (HX4.out.2.2.gr0 g6)))
  clear g6 b0 b1 b2 HX4 HLi
  have b0 := HX6.out.2.2.cell 0
  have b1 := HX6.out.2.2.cell 1
  have b2 := HX6.out.2.2.cell 2
  go_wp2_with fail
  refine (HW1.out _ (HH.out.gr0 HX6.out.2.1)).mono ?_
  rintro e w7 ⟨rfl, r7, f7, g7⟩
  have HX7 := Lib.hid (And.intro (HX6.out.1.gr g7 HPB.out) (And.intro ((HX6.out.2.1.of0 (cs := r.all)).trans g7) (And.intro (HX6.out.2.2.gr g7 HBB.out) (And.intro r7 f7))))
  clear r7 f7 g7 b0 b1 b2 HX6 HW1
  by_cases he1 : e1 = 0
  · have hm := HMZ.out
    rw [if_pos he1] at hm
    subst he1
    have HW3 := Lib.hid (HW2.out rfl)
    obtain ⟨⟨e2, D2, B2⟩, hY⟩ : ∃ X, writeWordS (bankR P) ((P.l : Int) + 1) 0 (pkN P (j + 1)) D1 B1 = X := ⟨_, rfl⟩
    rw [hY] at HW3 hm
    subst hm
    clear hY HW2 HMZ
    go_wp2_with fail
    refine (HPk.out _).mono ?_
    rintro e w8 ⟨rfl, rfl⟩
    have b0 := HX7.out.2.2.1.cell 0
    have b1 := HX7.out.2.2.1.cell 1
    have b2 := HX7.out.2.2.1.cell 2
    have c1 := HX7.out.1.cell 1
    go_wp2_with fail
    refine (HW3.out _ HX7.out.2.2.2.1 HX7.out.2.2.2.2).mono ?_
    rintro e w9 ⟨rfl, r9, f9, g9⟩
    have HX9 := Lib.hid (And.intro (HX7.out.2.1.trans g9) (And.intro r9 f9))
    clear r9 f9 g9 b0 b1 b2 c1 HX7 HW3
    have hq9 := HQ.out.gr HX9.out.1 HSEP.out
    have q4 : w9.cell? ⟨rq, 4, none⟩ = some (.int .i64 (c : Int)) := hq9.cell 4
    have f4 : w9.frozen? ⟨rq, 4, none⟩ = false := hq9.frozen 4
    have HQ9 := Lib.hid hq9
    clear hq9
    by_cases he2 : e2 = 0
    · subst he2
      go_wp2_with fail
      go_ret
      have gs : Gr (rq :: r.all) w9 (w9.setCell ⟨rq, 4, none⟩ (.int .i64 0)) := (Gr.refl (rq :: r.all) w9).setCell (p := ⟨rq, 4, none⟩) (.inl (by simp)) _
      have hs := HQ9.out.set 4 (.int .i64 0)
      refine ⟨rfl, HX9.out.2.1.gr ((Gr.refl [rq] w9).setCell (p := ⟨rq, 4, none⟩) (.inl (by simp)) _) (fun x hx hy => HSEP.out (by rw [← List.mem_singleton.1 hy]; exact hx)), HX9.out.2.2.mono (by omega), ?_, (HX9.out.1.mono (fun b hb => List.mem_cons_of_mem _ hb)).trans gs⟩
      simpa [rqRow] using hs
    · have HE := Lib.hid he2
      go_wp2_with fail
      go_ret
      refine ⟨rfl, HX9.out.2.1, HX9.out.2.2.mono (by omega), ?_, HX9.out.1.mono (fun b hb => List.mem_cons_of_mem _ hb)⟩
      rw [if_neg HE.out]
      exact HQ9.out
  · have hm := HMZ.out
    rw [if_neg he1] at hm
    subst hm
    have HE := Lib.hid he1
    go_wp2_with fail
    go_ret
    refine ⟨rfl, HX7.out.2.2.2.1, HX7.out.2.2.2.2.mono (by omega), ?_, HX7.out.2.1.mono (fun b hb => List.mem_cons_of_mem _ hb)⟩
    rw [if_neg HE.out]
    exact HQ.out.gr HX7.out.2.1 HSEP.out
end
end Go.Proofs.YtjbhallhmnahbaaGreat
