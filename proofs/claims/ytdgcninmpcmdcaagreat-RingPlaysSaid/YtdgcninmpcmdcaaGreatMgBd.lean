/-
  MgBd: RhD, RhE, RhF, RhG, RhH, RhI, RhJ, RhK, RhL.
-/
import Derived.Test.YtdgcninmpcmdcaaGreatMgBc
import Derived.Test.YtdgcninmpcmdcaaGreatMgBb
import Derived.Test.YtdgcninmpcmdcaaGreatMgAd
import Derived.Test.YtdgcninmpcmdcaaGreatMgZ
import Derived.Test.YtdgcninmpcmdcaaGreatRegT
import Derived.Test.YtdgcninmpcmdcaaGreatMgBa
import Derived.Test.YtdgcninmpcmdcaaGreatMgAa
import Derived.Test.YtdgcninmpcmdcaaGreatRgI

/-
  RingPlays, pure: a region that is on stays on, or the power fails; what it is behind Boot.
-/
namespace Go.Proofs.YtdgcninmpcmdcaaGreat
open Go.RowKit
set_option linter.unusedVariables false

/-- A region whose power failed: behind Boot its register says j or j + 1. -/
def OffR (P : PlanR) (j : Nat) (D : DevS) : Prop := D.off = true ∧ ∀ L kp, IsPend D L → ∃ (B : BkS) (j2 : Nat), (j2 = j ∨ j2 = j + 1) ∧ TI (bankR P) (bootD D L kp) B ∧ cntZ (bankR P) B (bootD D L kp) ((P.l : Int) + 1) 0 = pkN P j2
section
variable {P : PlanR} {D E : DevS} {B B' : BkS} {j l0 : Nat} {s : ByteArray} {i e : Int} {C : (Nat → Nat) → Prop}
theorem OnR.rgc (h : OnR P D B j) : RgC P (bare D) B j (fun i k => cntZ (bankR P) B D ((slotN P.l j i : Nat) : Int) k) := ⟨h.ti, h.reg, fun _ _ _ _ => rfl⟩
theorem OnR.wrl (hP : OkR P) (h : OnR P D B j) (h0 : 0 ≤ i) (h1 : i ≤ (P.l : Int)) (hp : placeP (bankR P) B i = (l0 : Int)) (x : WrL (bankR P) i l0 s D B C e E B') : (e ≠ 6 → OnR P E B' j) ∧ (e = 6 → OffR P j E) ∧ E.n = D.n := by
  have hi := inR P (z := i) h0 (by omega)
  have key : ∀ {E2 : DevS} {B2 : BkS} {G : (Nat → Nat) → Prop}, Kept (bankR P) i l0 D B E2 B2 G → cntZ (bankR P) B2 E2 ((P.l : Int) + 1) 0 = pkN P j := fun k => by
    rw [(k.cnt h.ti hP.ok hi hp).1 _ (inR P (by omega) (by omega)) (by omega) 0 (by omega)]
    exact h.reg
  rcases x with ⟨rfl, a, b⟩ | ⟨rfl, a, b⟩ | ⟨rfl, a, b, c, d⟩
  · exact ⟨fun _ => ⟨a, b.ti, show cntZ (bankR P) B' (bare E) ((P.l : Int) + 1) 0 = _ from key b⟩, fun q => by omega, b.n⟩
  · exact ⟨fun _ => ⟨a, b.ti, show cntZ (bankR P) B' (bare E) ((P.l : Int) + 1) 0 = _ from key b⟩, fun q => by omega, b.n⟩
  · exact ⟨fun q => absurd rfl q, fun _ => ⟨a, fun L kp hL => by
      obtain ⟨B3, z⟩ := d L kp hL
      exact ⟨B3, j, .inl rfl, z.ti, key z⟩⟩, b⟩
/-- A line's write. -/
theorem OnR.line (hP : OkR P) (h : OnR P D B j) (h0 : 0 ≤ i) (h1 : i ≤ (P.l : Int)) (hs : s.size = 64) :
    ((writeS (bankR P) i s D B).1 ≠ 6 → OnR P (writeS (bankR P) i s D B).2.1 (writeS (bankR P) i s D B).2.2 j) ∧ ((writeS (bankR P) i s D B).1 = 6 → OffR P j (writeS (bankR P) i s D B).2.1) ∧ (writeS (bankR P) i s D B).2.1.n = D.n := by
  obtain ⟨l0, e, E, B', q1, q2, q3⟩ := write_last h.ti h.live hP.ok (inR P h0 (by omega)) hs
  rw [q2]
  exact h.wrl hP h0 h1 q1 q3
/-- A word's write. -/
theorem OnR.word (hP : OkR P) (hmb : MB D) (h : OnR P D B j) (h0 : 0 ≤ i) (h1 : i ≤ (P.l : Int)) {k v : Nat} (hk : k < 8) (hv : v < 18446744073709551616) :
    ((writeWordS (bankR P) i (k : Int) v D B).1 ≠ 6 → OnR P (writeWordS (bankR P) i (k : Int) v D B).2.1 (writeWordS (bankR P) i (k : Int) v D B).2.2 j) ∧ ((writeWordS (bankR P) i (k : Int) v D B).1 = 6 → OffR P j (writeWordS (bankR P) i (k : Int) v D B).2.1) ∧ (writeWordS (bankR P) i (k : Int) v D B).2.1.n = D.n := by
  obtain ⟨l0, e, E, B', q1, q2, q3⟩ := ww_last h.ti h.live hmb hv hP.ok (inR P h0 (by omega)) hk
  rw [q2]
  exact h.wrl hP h0 h1 q1 q3
/-- A move. -/
theorem OnR.move (hP : OkR P) (hmb : MB D) (hbb : MBB D) (h : OnR P D B j) (hj : j < 4294967295) :
    ((movZ P D B j).1 = 0 → OnR P (movZ P D B j).2.1 (movZ P D B j).2.2 (j + 1)) ∧ ((movZ P D B j).1 ≠ 0 → (movZ P D B j).1 ≠ 6 → OnR P (movZ P D B j).2.1 (movZ P D B j).2.2 j) ∧ ((movZ P D B j).1 = 6 → OffR P j (movZ P D B j).2.1) ∧ MBB (movZ P D B j).2.1 := by
  have hle3 : toN P.l j ≤ P.l := by unfold toN; omega
  have hle4 : fromN P.l j ≤ P.l := by unfold fromN; split <;> omega
  have hif : inP (bankR P) (fromI P j) := by rw [fromI_N]; exact inR P (by omega) (by omega)
  have hir : inP (bankR P) ((P.l : Int) + 1) := inR P (by omega) (by omega)
  obtain ⟨lf, pf, _, _, _⟩ := h.ti.place hP.ok hif
  have hread : readR D (bankR P) B (fromI P j) = (⟨(getT D lf).toArray⟩, 0) := by
    unfold readR
    rw [if_pos hif, h.live.off, pf, Int.toNat_natCast]
    rfl
  have hT64 := line_size D lf
  unfold movZ
  rw [hread]
  simp only
  obtain ⟨T, hT⟩ : ∃ T : ByteArray, T = ⟨(getT D lf).toArray⟩ := ⟨_, rfl⟩
  rw [← hT] at hT64 ⊢
  obtain ⟨w0, w6, wn⟩ := h.line hP (i := toI P j) (s := T) (by rw [toI_N]; omega) (by rw [toI_N]; omega) hT64
  have wb := hbb.write (bankR P) (i := toI P j) T B (by rw [toI_N]; have := hP.l2; omega)
  obtain ⟨⟨e1, D1, B1⟩, hX⟩ : ∃ X, writeS (bankR P) (toI P j) T D B = X := ⟨_, rfl⟩
  rw [hX] at w0 w6 wn wb ⊢
  simp only at w0 w6 wn wb ⊢
  by_cases c : e1 = 0
  · rw [if_pos c]
    have o1 := w0 (by omega)
    obtain ⟨hv1, hv2⟩ := pkN_val hP (j + 1) (by omega)
    have wb2 := wb.ww (bankR P) (i := (P.l : Int) + 1) 0 B1 (by have := hP.l2; omega) hv2
    obtain ⟨l2, e2, D2, B2, p2, x2, y2⟩ := ww_last (k := 0) (v := pkN P (j + 1)) o1.ti o1.live wb.1 hv2 hP.ok hir (by omega)
    have x2' : writeWordS (bankR P) ((P.l : Int) + 1) 0 (pkN P (j + 1)) D1 B1 = (e2, D2, B2) := x2
    rw [x2'] at wb2 ⊢
    simp only at wb2 ⊢
    have hold : D1.med (8 * l2 + 0) = pkN P j := by
      have := o1.reg
      unfold cntZ at this
      rw [p2, Int.toNat_natCast] at this
      exact this
    have htx : wdL (textU (updF (fun i => D1.med (8 * l2 + i)) 0 (pkN P (j + 1)))).data.toList 0 = pkN P (j + 1) := by
      rw [wd_textU8 (fun i hi => by
        unfold updF
        split
        · exact hv2
        · exact wb.1 _) 0 (by omega)]
      rfl
    rcases y2 with ⟨rfl, a, b⟩ | ⟨rfl, a, b⟩ | ⟨rfl, a, b, c2, d⟩
    · refine ⟨fun _ => ⟨a, b.ti, ?_⟩, fun q => absurd rfl q, fun q => by omega, wb2⟩
      exact ((b.cnt o1.ti hP.ok hir p2).2 0 (by omega)).trans htx
    · refine ⟨fun q => by omega, fun _ _ => ⟨a, b.ti, ?_⟩, fun q => by omega, wb2⟩
      exact ((b.cnt o1.ti hP.ok hir p2).2 0 (by omega)).trans hold
    · refine ⟨fun q => by omega, fun _ q => absurd rfl q, fun _ => ⟨a, fun L kp hL => ?_⟩, wb2⟩
      obtain ⟨B3, z⟩ := d L kp hL
      rcases (z.cnt o1.ti hP.ok hir p2).2 with g | g
      · exact ⟨B3, j, .inl rfl, z.ti, (g 0 (by omega)).trans hold⟩
      · exact ⟨B3, j + 1, .inr rfl, z.ti, (g 0 (by omega)).trans rfl⟩
  · rw [if_neg c]
    exact ⟨fun q => absurd q c, fun _ q => w0 q, w6, wb⟩
/-- Behind Boot the region is on. -/
theorem OnR.boot (hP : OkR P) (h : OnR P D B j ∨ OffR P j D) {L : List Nat} (kp : Nat → Bool) (hL : IsPend D L) : ∃ (B2 : BkS) (j2 : Nat), (j2 = j ∨ j2 = j + 1) ∧ OnR P (bootD D L kp) B2 j2 ∧ TI (bankR P) (bootD D L kp) B2 := by
  rcases h with h | h
  · have hm := boot_live kp h.live hL
    refine ⟨B, j, .inl rfl, ⟨⟨rfl, fun _ => rfl⟩, h.ti.congr hP.ok (bare_calm _) rfl rfl hm, ?_⟩, h.ti.congr hP.ok (boot_calm D L kp) rfl rfl hm⟩
    unfold cntZ
    rw [hm]
    exact h.reg
  · obtain ⟨B2, j2, a, b, c⟩ := h.2 L kp hL
    exact ⟨B2, j2, a, ⟨⟨rfl, fun _ => rfl⟩, b.congr hP.ok (bare_calm _) rfl rfl rfl, c⟩, b⟩
end
/-- A write of a region, whatever is due: on behind it, or the power failed. -/
theorem OnR.regZ {P : PlanR} {D : DevS} {B : BkS} {j c i0 : Nat} (hP : OkR P) (hmb : MB D) (hbb : MBB D) (h : OnR P D B j) (hj : j < 4294967295) (hi : i0 < P.l) {f : Int → DevS → BkS → Int × DevS × BkS}
    (hf : ∀ (z : Int) (D : DevS) (B : BkS) (j : Nat), 0 ≤ z → z ≤ (P.l : Int) → MB D → OnR P D B j → ((f z D B).1 ≠ 6 → OnR P (f z D B).2.1 (f z D B).2.2 j) ∧ ((f z D B).1 = 6 → OffR P j (f z D B).2.1) ∧ (f z D B).2.1.n = D.n) :
    ((Go.Proofs.YtdgcninmpcmdcaaGreat.regZ P i0 f D B j c).1 ≠ 6 → OnR P (Go.Proofs.YtdgcninmpcmdcaaGreat.regZ P i0 f D B j c).2.1 (Go.Proofs.YtdgcninmpcmdcaaGreat.regZ P i0 f D B j c).2.2.1 (Go.Proofs.YtdgcninmpcmdcaaGreat.regZ P i0 f D B j c).2.2.2.1) ∧ ((Go.Proofs.YtdgcninmpcmdcaaGreat.regZ P i0 f D B j c).1 = 6 → OffR P (Go.Proofs.YtdgcninmpcmdcaaGreat.regZ P i0 f D B j c).2.2.2.1 (Go.Proofs.YtdgcninmpcmdcaaGreat.regZ P i0 f D B j c).2.1) ∧
      (Go.Proofs.YtdgcninmpcmdcaaGreat.regZ P i0 f D B j c).2.1.n = D.n ∧ (Go.Proofs.YtdgcninmpcmdcaaGreat.regZ P i0 f D B j c).2.2.2.1 ≤ j + 1 := by
  have sl : ∀ j2, 0 ≤ slotJ P j2 i0 ∧ slotJ P j2 i0 ≤ (P.l : Int) := fun j2 => by
    rw [slotJ_N P j2 i0 hP.l1]
    have := slotN_le (j := j2) (i := i0) hP.l1
    omega
  unfold Go.Proofs.YtdgcninmpcmdcaaGreat.regZ
  by_cases hc : P.psi ≤ (c : Int)
  · rw [if_pos hc]
    obtain ⟨a1, a2, a3, a4⟩ := h.move hP hmb hbb hj
    obtain ⟨_, _, an, _⟩ := move_last hP h.live hmb h.rgc hj
    by_cases hM : (movZ P D B j).1 = 0
    · rw [if_pos hM]
      obtain ⟨b1, b2, b3⟩ := hf (slotJ P (j + 1) i0) _ _ (j + 1) (sl _).1 (sl _).2 a4.1 (a1 hM)
      exact ⟨b1, b2, b3.trans an, Nat.le_refl _⟩
    · rw [if_neg hM]
      exact ⟨fun q => a2 hM q, a3, an, by show j ≤ j + 1; omega⟩
  · rw [if_neg hc]
    obtain ⟨b1, b2, b3⟩ := hf (slotJ P j i0) _ _ j (sl _).1 (sl _).2 hmb h
    exact ⟨b1, b2, b3, by show j ≤ j + 1; omega⟩
end Go.Proofs.YtdgcninmpcmdcaaGreat

/-
  RingPlays: the document's move.
-/
namespace Go.Proofs.YtdgcninmpcmdcaaGreat
open Go.RowKit
set_option linter.unusedVariables false

section
variable {w w' : World} {r : RefA} {D : DevS} {P : PlanR} {B : BkS} {j c cc rq : Nat}
theorem rnext07 (hP : OkR P) (W : World) :
    Calls Tryz.prog 89 #[.int .i64 (sAt P.l j), .int .i64 (gAt P.l j), .int .i64 (P.l : Int)] W fun e w' =>
      e = .returned (.tuple #[.int .i64 (sAt P.l (j + 1)), .int .i64 (gAt P.l (j + 1)), .int .i64 (fromI P j), .int .i64 (toI P j)]) ∧ w' = W := by
  have hr := at_right P.l j hP.l1 hP.l2
  unfold fromI toI
  by_cases hg : 0 < gAt P.l j
  · obtain ⟨e1, e2⟩ := at_pos P.l j hP.l1 hg
    rw [e1, e2, if_pos hg]
    exact (rnext_pos _ _ _ W hr hg).mono fun e w' ⟨he, hb⟩ => ⟨he, hb.symm⟩
  · have h0 : gAt P.l j = 0 := by have := hr.2.2.2.2.1; omega
    obtain ⟨e1, e2⟩ := at_zero P.l j hP.l1 h0
    rw [e1, e2, if_neg hg, h0]
    rw [h0] at hr
    exact (rnext_zero _ _ W hr).mono fun e w' ⟨he, hb⟩ => ⟨he, hb.symm⟩
/-- The document's region in memory. -/
def rqRow (P : PlanR) (c : Nat) : Array Value := #[.int .i64 P.a, .int .i64 (P.l : Int), .int .i64 P.s, .int .i64 P.psi, .int .i64 (c : Int)]
/-- What its move leaves. -/
def MvPost (w : World) (r : RefA) (P : PlanR) (rq cc c : Nat) (X : Int × DevS × BkS) (e : Ending) (w' : World) : Prop :=
  e = .returned (.int .i64 X.1) ∧ RefIs w' r X.2.1 ∧ Fu X.2.1 (cc + 2800) ∧ Holds w' rq (rqRow P (if X.1 = 0 then 0 else c)) 34 ∧ Gr (rq :: r.all) w w'
set_option maxRecDepth 100000 in
set_option maxHeartbeats 16000000 in
theorem rmove07 (hP : OkR P) (h : RefIs w r D) (hq : Holds w rq (rqRow P c) 34) (hrq : rq ∉ r.all) (hO : OnR P D B j) (hbb : MBB D) (hb : Fu D cc) (hcc : cc < 500000) (hj : j < 4294967295) :
    Calls Tryz.prog 41 #[.pointer (some ⟨r.rd, 0, none⟩), .pointer (some ⟨rq, 0, none⟩)] w (MvPost w r P rq cc c (movZ P D B j)) := by
  have hle3 : toN P.l j ≤ P.l := by unfold toN; omega
  have hle4 : fromN P.l j ≤ P.l := by unfold fromN; split <;> omega
  have hif : inP (bankR P) (fromI P j) := by rw [fromI_N]; exact inR P (by omega) (by omega)
  obtain ⟨lf, pf, _, _, _⟩ := hO.ti.place hP.ok hif
  have hread : readR D (bankR P) B (fromI P j) = (⟨(getT D lf).toArray⟩, 0) := by
    unfold readR
    rw [if_pos hif, hO.live.off, pf, Int.toNat_natCast]
    rfl
  have hT64 := line_size D lf
  have HLi := Lib.hid (fun W (q : RefIs W r D) => show Calls Tryz.prog 90 #[.pointer (some ⟨r.rd, 0, none⟩), .agg #[.int .i64 P.a, .int .i64 ((P.l : Int) + 2), .int .i64 P.s], .int .i64 (fromI P j)] W _ from rline07 (p := bankR P) (fromI P j) q hO.live hO.ti hbb.1 hP.ok hif)
  have hmz : movZ P D B j = if (writeS (bankR P) (toI P j) (readR D (bankR P) B (fromI P j)).1 D B).1 = 0 then writeWordS (bankR P) ((P.l : Int) + 1) 0 (pkN P (j + 1)) (writeS (bankR P) (toI P j) (readR D (bankR P) B (fromI P j)).1 D B).2.1 (writeS (bankR P) (toI P j) (readR D (bankR P) B (fromI P j)).1 D B).2.2 else writeS (bankR P) (toI P j) (readR D (bankR P) B (fromI P j)).1 D B := rfl
  obtain ⟨M, hM⟩ : ∃ M, M = movZ P D B j := ⟨_, rfl⟩
  rw [← hM] at hmz ⊢
  rw [hread] at HLi hmz
  simp only at HLi hmz
  obtain ⟨T, hT⟩ : ∃ T : ByteArray, T = ⟨(getT D lf).toArray⟩ := ⟨_, rfl⟩
  rw [← hT] at hT64 HLi hmz
  obtain ⟨w0, w6, wn⟩ := hO.line hP (i := toI P j) (s := T) (by rw [toI_N]; omega) (by rw [toI_N]; omega) hT64
  have wb := hbb.write (bankR P) (i := toI P j) T B (by rw [toI_N]; have := hP.l2; omega)
  have HW1 := Lib.hid (fun W (q : RefIs W r D) => show Calls Tryz.prog 44 #[.pointer (some ⟨r.rd, 0, none⟩), .agg #[.int .i64 P.a, .int .i64 ((P.l : Int) + 2), .int .i64 P.s], .int .i64 (toI P j), .string T] W _ from rwrite_any (p := bankR P) (toI P j) T q hO.live hO.ti hbb.1 hb (by omega) hP.ok (by rw [hT64]; unfold maxLen; omega))
  obtain ⟨⟨e1, D1, B1⟩, hX⟩ : ∃ X, writeS (bankR P) (toI P j) T D B = X := ⟨_, rfl⟩
  rw [hX] at w0 w6 wn wb HW1 hmz
  simp only at w0 w6 wn wb hmz
  obtain ⟨hv1, hv2⟩ := pkN_val hP (j + 1) (by omega)
  have HW2 := Lib.hid (fun (he : e1 = 0) W (q : RefIs W r D1) (hf : Fu D1 (cc + 1400)) => show Calls Tryz.prog 45 #[.pointer (some ⟨r.rd, 0, none⟩), .agg #[.int .i64 P.a, .int .i64 ((P.l : Int) + 2), .int .i64 P.s], .int .i64 ((P.l : Int) + 1), .int .i64 0, .int .u64 (pkI (sAt P.l (j + 1)) (gAt P.l (j + 1)) ((j + 1 : Nat) : Int))] W _ by
    rw [← hv1]
    exact rww_any (p := bankR P) ((P.l : Int) + 1) 0 (pkN P (j + 1)) q (w0 (by omega)).live (w0 (by omega)).ti wb.1 hf (by omega) hP.ok hv2)
  have HSt := Lib.hid (fun W (q : RefIs W r D) => show Calls Tryz.prog 42 #[.pointer (some ⟨r.rd, 0, none⟩), .agg #[.int .i64 P.a, .int .i64 (P.l : Int), .int .i64 P.s, .int .i64 P.psi]] W _ from rstate07 hP q hO hbb.1 (by omega))
  have HBk := Lib.hid (fun W => show Calls Tryz.prog 26 #[.agg #[.int .i64 P.a, .int .i64 (P.l : Int), .int .i64 P.s, .int .i64 P.psi]] W _ from rbank07 hP W)
  have HNx := Lib.hid (fun W => rnext07 (P := P) (j := j) hP W)
  have HPk := Lib.hid (fun W => rpack_any (sAt P.l (j + 1)) (gAt P.l (j + 1)) ((j + 1 : Nat) : Int) W (by omega))
  have HMZ := Lib.hid hmz
  have HH := Lib.hid h
  have HQ := Lib.hid hq
  have HSEP := Lib.hid hrq
  have hl2 := hP.l2
  have q0 := hq.cell 0
  have q1 := hq.cell 1
  have q2 := hq.cell 2
  have q3 := hq.cell 3
  unfold rqRow at q0 q1 q2 q3
  obtain ⟨S, hS⟩ : ∃ S : Int, sAt P.l j = S := ⟨_, rfl⟩
  obtain ⟨Gg, hGg⟩ : ∃ G : Int, gAt P.l j = G := ⟨_, rfl⟩
  obtain ⟨S2, hS2⟩ : ∃ S : Int, sAt P.l (j + 1) = S := ⟨_, rfl⟩
  obtain ⟨G2, hG2⟩ : ∃ G : Int, gAt P.l (j + 1) = G := ⟨_, rfl⟩
  obtain ⟨J1, hJ1⟩ : ∃ J : Int, (j : Int) = J := ⟨_, rfl⟩
  obtain ⟨J2, hJ2⟩ : ∃ J : Int, ((j + 1 : Nat) : Int) = J := ⟨_, rfl⟩
  obtain ⟨ff, hff⟩ : ∃ f : Int, fromI P j = f := ⟨_, rfl⟩
  obtain ⟨tt, htt⟩ : ∃ f : Int, toI P j = f := ⟨_, rfl⟩
  rw [hS, hGg] at HSt HNx
  rw [hS2, hG2] at HNx HPk HW2
  rw [hJ1] at HSt
  rw [hJ2] at HPk HW2
  rw [hff] at HNx HLi
  rw [htt] at HNx HW1
  obtain ⟨pk, hpk⟩ : ∃ p : Int, pkI S2 G2 J2 = p := ⟨_, rfl⟩
  rw [hpk] at HPk HW2
  have hw1 : IntKind.i64.wrap ((P.l : Int) + 1) = (P.l : Int) + 1 := IntWalk.i64_in _ (by omega)
  have hu1 : IntKind.u64.wrap (J1 + 1) = J2 := by
    rw [IntWalk.u64_in _ (by omega)]
    omega
  have hu2 : J2 % 4294967296 = J2 := by omega
  have hu3 : J2.tmod 4294967296 = J2 := by rw [Int.tmod_eq_emod_of_nonneg (by omega)]; exact hu2
  clear hM hle3 hle4 hif pf hread hT64 hmz hT w0 w6 wn wb hX hv1 hv2 h hq hrq hO hbb hb hcc hj hS hGg hS2 hG2 hJ1 hJ2 hff htt hpk hl2 hP
  unfold planV bankR at HBk
  simp only at HBk
  go_enter Tryz.func41, Tryz.ntmps41
  go_upto_region 2 with fail
  have hx := Holds.new w #[.int .i64 P.a, .int .i64 (P.l : Int), .int .i64 P.s, .int .i64 P.psi] 25
  have ga := (Gr.refl [] w).alloc (Obj.cells #[.int .i64 P.a, .int .i64 (P.l : Int), .int .i64 P.s, .int .i64 P.psi] 25)
  have HX := Lib.hid (And.intro hx ga)
  have HPB := Lib.hid (show w.heap.size ∉ r.all from fun e => by have := HH.out.lt _ e; omega)
  clear hx ga q0 q1 q2 q3
  generalize (w.alloc (Obj.cells #[.int .i64 P.a, .int .i64 (P.l : Int), .int .i64 P.s, .int .i64 P.psi] 25)) = w1 at *
  obtain ⟨pb, hpb⟩ : ∃ pb, w.heap.size = pb := ⟨_, rfl⟩
  rw [hpb] at HX HPB ⊢
  clear hpb
  have c0 := HX.out.1.cell 0
  have c1 := HX.out.1.cell 1
  have c2 := HX.out.1.cell 2
  have c3 := HX.out.1.cell 3
  go_wp2_with fail
  refine (HBk.out _).mono ?_
  rintro e w2 ⟨rfl, g2⟩
  have HX2 := Lib.hid (And.intro (HX.out.1.gr0 g2) (HX.out.2.trans g2))
  clear g2 c0 c1 c2 c3 HX HBk
  go_upto_region 3 with fail
  have hb := Holds.new w2 #[.int .i64 P.a, .int .i64 ((P.l : Int) + 2), .int .i64 P.s] 74
  have ga := (Gr.refl [] w2).alloc (Obj.cells #[.int .i64 P.a, .int .i64 ((P.l : Int) + 2), .int .i64 P.s] 74)
  have HX3 := Lib.hid (And.intro (HX2.out.1.gr0 ga) (And.intro (HX2.out.2.trans ga) hb))
  have HBB := Lib.hid (show w2.heap.size ∉ r.all from fun e => by have := HH.out.lt _ e; have := HX2.out.2.size; omega)
  clear hb ga HX2
  generalize (w2.alloc (Obj.cells #[.int .i64 P.a, .int .i64 ((P.l : Int) + 2), .int .i64 P.s] 74)) = w3 at *
  obtain ⟨bb, hbb⟩ : ∃ bb, w2.heap.size = bb := ⟨_, rfl⟩
  rw [hbb] at HX3 HBB ⊢
  clear hbb
  have c0 := HX3.out.1.cell 0
  have c1 := HX3.out.1.cell 1
  have c2 := HX3.out.1.cell 2
  have c3 := HX3.out.1.cell 3
  go_wp2_with fail
  refine (HSt.out _ (HH.out.gr0 HX3.out.2.1)).mono ?_
  rintro e w4 ⟨rfl, g4⟩
  have HX4 := Lib.hid (And.intro (HX3.out.1.gr0 g4) (And.intro (HX3.out.2.1.trans g4) (HX3.out.2.2.gr0 g4)))
  clear g4 c0 c1 c2 c3 HX3 HSt
  have c1 := HX4.out.1.cell 1
  go_wp2_with fail
  refine (HNx.out _).mono ?_
  rintro e w5 ⟨rfl, rfl⟩
  have b0 := HX4.out.2.2.cell 0
  have b1 := HX4.out.2.2.cell 1
  have b2 := HX4.out.2.2.cell 2
  clear c1 HNx
  go_wp2_with fail
  refine (HLi.out _ (HH.out.gr0 HX4.out.2.1)).mono ?_
  rintro e w6 ⟨rfl, g6⟩
  have HX6 := Lib.hid (And.intro (HX4.out.1.gr0 g6) (And.intro (HX4.out.2.1.trans g6) (HX4.out.2.2.gr0 g6)))
  clear g6 b0 b1 b2 HX4 HLi
  have b0 := HX6.out.2.2.cell 0
  have b1 := HX6.out.2.2.cell 1
  have b2 := HX6.out.2.2.cell 2
  go_wp2_with fail
  refine (HW1.out _ (HH.out.gr0 HX6.out.2.1)).mono ?_
  rintro e w7 ⟨rfl, r7, f7, g7⟩
  have HX7 := Lib.hid (And.intro (HX6.out.1.gr g7 HPB.out) (And.intro ((HX6.out.2.1.of0 (cs := r.all)).trans g7) (And.intro (HX6.out.2.2.gr g7 HBB.out) (And.intro r7 f7))))
  clear r7 f7 g7 b0 b1 b2 HX6 HW1
  by_cases he1 : e1 = 0
  · have hm := HMZ.out
    rw [if_pos he1] at hm
    subst he1
    have HW3 := Lib.hid (HW2.out rfl)
    obtain ⟨⟨e2, D2, B2⟩, hY⟩ : ∃ X, writeWordS (bankR P) ((P.l : Int) + 1) 0 (pkN P (j + 1)) D1 B1 = X := ⟨_, rfl⟩
    rw [hY] at HW3 hm
    subst hm
    clear hY HW2 HMZ
    go_wp2_with fail
    refine (HPk.out _).mono ?_
    rintro e w8 ⟨rfl, rfl⟩
    have b0 := HX7.out.2.2.1.cell 0
    have b1 := HX7.out.2.2.1.cell 1
    have b2 := HX7.out.2.2.1.cell 2
    have c1 := HX7.out.1.cell 1
    go_wp2_with fail
    refine (HW3.out _ HX7.out.2.2.2.1 HX7.out.2.2.2.2).mono ?_
    rintro e w9 ⟨rfl, r9, f9, g9⟩
    have HX9 := Lib.hid (And.intro (HX7.out.2.1.trans g9) (And.intro r9 f9))
    clear r9 f9 g9 b0 b1 b2 c1 HX7 HW3
    have hq9 := HQ.out.gr HX9.out.1 HSEP.out
    have q4 : w9.cell? ⟨rq, 4, none⟩ = some (.int .i64 (c : Int)) := hq9.cell 4
    have f4 : w9.frozen? ⟨rq, 4, none⟩ = false := hq9.frozen 4
    have HQ9 := Lib.hid hq9
    clear hq9
    by_cases he2 : e2 = 0
    · subst he2
      go_wp2_with fail
      go_ret
      have gs : Gr (rq :: r.all) w9 (w9.setCell ⟨rq, 4, none⟩ (.int .i64 0)) := (Gr.refl (rq :: r.all) w9).setCell (p := ⟨rq, 4, none⟩) (.inl (by simp)) _
      have hs := HQ9.out.set 4 (.int .i64 0)
      refine ⟨rfl, HX9.out.2.1.gr ((Gr.refl [rq] w9).setCell (p := ⟨rq, 4, none⟩) (.inl (by simp)) _) (fun x hx hy => HSEP.out (by rw [← List.mem_singleton.1 hy]; exact hx)), HX9.out.2.2.mono (by omega), ?_, (HX9.out.1.mono (fun b hb => List.mem_cons_of_mem _ hb)).trans gs⟩
      simpa [rqRow] using hs
    · have HE := Lib.hid he2
      go_wp2_with fail
      go_ret
      refine ⟨rfl, HX9.out.2.1, HX9.out.2.2.mono (by omega), ?_, HX9.out.1.mono (fun b hb => List.mem_cons_of_mem _ hb)⟩
      rw [if_neg HE.out]
      exact HQ9.out
  · have hm := HMZ.out
    rw [if_neg he1] at hm
    subst hm
    have HE := Lib.hid he1
    go_wp2_with fail
    go_ret
    refine ⟨rfl, HX7.out.2.2.2.1, HX7.out.2.2.2.2.mono (by omega), ?_, HX7.out.2.1.mono (fun b hb => List.mem_cons_of_mem _ hb)⟩
    rw [if_neg HE.out]
    exact HQ.out.gr HX7.out.2.1 HSEP.out
end
end Go.Proofs.YtdgcninmpcmdcaaGreat

/-
  RingPlays: the document's Write.
-/
namespace Go.Proofs.YtdgcninmpcmdcaaGreat
open Go.RowKit
set_option linter.unusedVariables false

/-- What the document's write leaves. -/
def RqPost (w : World) (r : RefA) (P : PlanR) (rq cc : Nat) (X : Int × DevS × BkS × Nat × Nat) (e : Ending) (w' : World) : Prop :=
  e = .returned (.int .i64 X.1) ∧ RefIs w' r X.2.1 ∧ Fu X.2.1 (cc + 4200) ∧ Holds w' rq (rqRow P X.2.2.2.2) 34 ∧ Gr (rq :: r.all) w w'
section
variable {w w' : World} {r : RefA} {D : DevS} {P : PlanR} {B : BkS} {j c cc rq : Nat}
set_option maxRecDepth 100000 in
set_option maxHeartbeats 16000000 in
theorem rwrite07 (i : Nat) (s : ByteArray) (hs : s.size = 64) (hi : i < P.l) (hP : OkR P) (h : RefIs w r D) (hq : Holds w rq (rqRow P c) 34) (hrq : rq ∉ r.all) (hO : OnR P D B j) (hbb : MBB D) (hb : Fu D cc) (hcc : cc < 400000) (hj : j < 4294967294) (hc9 : c ≤ 65536) :
    Calls Tryz.prog 11 #[.pointer (some ⟨r.rd, 0, none⟩), .pointer (some ⟨rq, 0, none⟩), .int .i64 (i : Int), .string s, .int .i64 (-1), .int .u64 0] w (RqPost w r P rq cc (regZ P i (fun z => writeS (bankR P) z s) D B j c)) := by
  obtain ⟨X, hX⟩ : ∃ X, X = regZ P i (fun z => writeS (bankR P) z s) D B j c := ⟨_, rfl⟩
  rw [← hX]
  have HX := Lib.hid hX
  have HP := Lib.hid (And.intro hP hi)
  have HBk := Lib.hid (fun W => show Calls Tryz.prog 26 #[.agg #[.int .i64 P.a, .int .i64 (P.l : Int), .int .i64 P.s, .int .i64 P.psi]] W _ from rbank07 hP W)
  have HMv := Lib.hid (fun W (q1 : RefIs W r D) (q2 : Holds W rq (rqRow P c) 34) => rmove07 hP q1 q2 hrq hO hbb hb (by omega) (by omega))
  have HMr := Lib.hid (hO.move hP hbb.1 hbb (by omega))
  have HOn0 := Lib.hid (And.intro hO hbb)
  have HJ := Lib.hid hj
  have HCC := Lib.hid hcc
  have HCP := Lib.hid hc9
  have HSEP := Lib.hid hrq
  have HD := Lib.hid (And.intro h (And.intro hq hb))
  have q0 := hq.cell 0
  have q1 := hq.cell 1
  have q2 := hq.cell 2
  have q3 := hq.cell 3
  unfold rqRow at q0 q1 q2 q3
  have ik1 : ¬ ((i : Int) < 0) := by omega
  have ik2 : ¬ ((P.l : Int) ≤ (i : Int)) := by omega
  have HSZ := Lib.hid (show s.size ≤ maxLen by rw [hs]; unfold maxLen; omega)
  have hs64 : (s.size : Int) = 64 := by omega
  unfold planV bankR at HBk
  simp only at HBk
  clear hX hP h hq hrq hO hbb hb hcc hj hc9 hi hs
  go_enter Tryz.func11, Tryz.ntmps11
  go_upto_region 4 with fail
  have hx := Holds.new w #[.int .i64 P.a, .int .i64 (P.l : Int), .int .i64 P.s, .int .i64 P.psi] 25
  have ga := (Gr.refl [] w).alloc (Obj.cells #[.int .i64 P.a, .int .i64 (P.l : Int), .int .i64 P.s, .int .i64 P.psi] 25)
  have H1 := Lib.hid (And.intro (HD.out.1.gr0 ga) (And.intro (HD.out.2.1.gr0 ga) (And.intro ga hx)))
  have HPB := Lib.hid (show w.heap.size ∉ rq :: r.all from fun e => by
    rcases List.mem_cons.1 e with e | e
    · have := HD.out.2.1.lt; omega
    · have := HD.out.1.lt _ e; omega)
  clear hx ga q0 q1 q2 q3
  generalize (w.alloc (Obj.cells #[.int .i64 P.a, .int .i64 (P.l : Int), .int .i64 P.s, .int .i64 P.psi] 25)) = w1 at *
  obtain ⟨pb, hpb⟩ : ∃ pb, w.heap.size = pb := ⟨_, rfl⟩
  rw [hpb] at H1 HPB ⊢
  clear hpb
  have c1 := H1.out.2.2.2.cell 1
  have c3 := H1.out.2.2.2.cell 3
  have q4 : w1.cell? ⟨rq, 4, none⟩ = some (.int .i64 (c : Int)) := H1.out.2.1.cell 4
  by_cases hc : P.psi ≤ (c : Int)
  · skip
    go_wp2_with fail
    go_quiet (fail)
    have gq : Gr [] w1 (w1.drewN nq) := (Gr.refl [] w1).drewN nq
    have H2 := Lib.hid (And.intro (H1.out.1.gr0 gq) (And.intro (H1.out.2.1.gr0 gq) (And.intro (H1.out.2.2.1.trans gq) (H1.out.2.2.2.gr0 gq))))
    clear gq c1 c3 q4 H1
    generalize w1.drewN nq = w2 at *
    go_wp2_with fail
    refine (HMv.out _ H2.out.1 H2.out.2.1).mono ?_
    rintro e w3 ⟨rfl, r3, f3, q3, g3⟩
    have hpbl := H2.out.2.2.2.gr g3 HPB.out
    have HT := Lib.hid (And.intro r3 (And.intro f3 (And.intro q3 (And.intro ((H2.out.2.2.1.of0 (cs := rq :: r.all)).trans g3) hpbl))))
    clear r3 f3 q3 g3 hpbl H2 HMv
    have hm := HX.out
    unfold regZ at hm
    rw [if_pos hc] at hm
    by_cases hM : (movZ P D B j).1 = 0
    · rw [if_pos hM] at HT hm
      have HOn := Lib.hid (And.intro (HMr.out.1 hM) (And.intro HMr.out.2.2.2.1 (show j + 1 ≤ 4294967295 by have := HJ.out; omega)))
      obtain ⟨⟨e2, D2, B2⟩, hMv⟩ : ∃ X, movZ P D B j = X := ⟨_, rfl⟩
      rw [hMv] at HT hm HOn hM ⊢
      simp only at HT hm HOn hM ⊢
      subst hM
      have HCP := Lib.hid (show 0 ≤ 65536 by omega)
      clear hMv HMr HOn0
      have HSt := Lib.hid (fun W (q : RefIs W r D2) => show Calls Tryz.prog 42 #[.pointer (some ⟨r.rd, 0, none⟩), .agg #[.int .i64 P.a, .int .i64 (P.l : Int), .int .i64 P.s, .int .i64 P.psi]] W _ from rstate07 HP.out.1 q HOn.out.1 HOn.out.2.1 HOn.out.2.2)
      have HSl := Lib.hid (fun W => rslot07 (j := (j + 1)) HP.out.1 i HP.out.2 W)
      have HWr := Lib.hid (fun W (q : RefIs W r D2) (hf : Fu D2 (cc + 2800)) => show Calls Tryz.prog 44 #[.pointer (some ⟨r.rd, 0, none⟩), .agg #[.int .i64 P.a, .int .i64 ((P.l : Int) + 2), .int .i64 P.s], .int .i64 (slotJ P (j + 1) i), .string s] W _ from rwrite_any (p := bankR P) (slotJ P (j + 1) i) s q HOn.out.1.live HOn.out.1.ti HOn.out.2.1 hf (by have := HCC.out; omega) HP.out.1.ok HSZ.out)
      obtain ⟨⟨e3, D3, B3⟩, hY⟩ : ∃ X, writeS (bankR P) (slotJ P (j + 1) i) s D2 B2 = X := ⟨_, rfl⟩
      rw [hY] at HWr
      simp only [hY] at hm
      have HM := Lib.hid hm
      clear hm
      obtain ⟨S, hS⟩ : ∃ S : Int, sAt P.l (j + 1) = S := ⟨_, rfl⟩
      obtain ⟨Gg, hGg⟩ : ∃ G : Int, gAt P.l (j + 1) = G := ⟨_, rfl⟩
      obtain ⟨K, hK⟩ : ∃ K : Int, slotJ P (j + 1) i = K := ⟨_, rfl⟩
      rw [hS, hGg] at HSt HSl
      rw [hK] at HSl HWr
      clear hS hGg hK hY
      have c0 := HT.out.2.2.2.2.cell 0
      have c1 := HT.out.2.2.2.2.cell 1
      have c2 := HT.out.2.2.2.2.cell 2
      have c3 := HT.out.2.2.2.2.cell 3
      go_wp2_with fail
      refine (HBk.out _).mono ?_
      rintro e w4 ⟨rfl, g4⟩
      have HT4 := Lib.hid (And.intro (HT.out.1.gr0 g4) (And.intro HT.out.2.1 (And.intro (HT.out.2.2.1.gr0 g4) (And.intro (HT.out.2.2.2.1.next0 g4) (HT.out.2.2.2.2.gr0 g4)))))
      clear g4 c0 c1 c2 c3 HT
      go_upto_region 11 with fail
      have hb := Holds.new w4 #[.int .i64 P.a, .int .i64 ((P.l : Int) + 2), .int .i64 P.s] 74
      have ga := (Gr.refl [] w4).alloc (Obj.cells #[.int .i64 P.a, .int .i64 ((P.l : Int) + 2), .int .i64 P.s] 74)
      have HT5 := Lib.hid (And.intro (HT4.out.1.gr0 ga) (And.intro HT4.out.2.1 (And.intro (HT4.out.2.2.1.gr0 ga) (And.intro (HT4.out.2.2.2.1.next0 ga) (And.intro (HT4.out.2.2.2.2.gr0 ga) hb)))))
      have HBB := Lib.hid (show w4.heap.size ∉ r.all from fun e => by have := HT4.out.1.lt _ e; omega)
      clear hb ga HT4
      generalize (w4.alloc (Obj.cells #[.int .i64 P.a, .int .i64 ((P.l : Int) + 2), .int .i64 P.s] 74)) = w5 at *
      obtain ⟨bb, hbb⟩ : ∃ bb, w4.heap.size = bb := ⟨_, rfl⟩
      rw [hbb] at HT5 HBB ⊢
      clear hbb
      have c0 := HT5.out.2.2.2.2.1.cell 0
      have c1 := HT5.out.2.2.2.2.1.cell 1
      have c2 := HT5.out.2.2.2.2.1.cell 2
      have c3 := HT5.out.2.2.2.2.1.cell 3
      go_wp2_with fail
      refine (HSt.out _ HT5.out.1).mono ?_
      rintro e w6 ⟨rfl, g6⟩
      have HT6 := Lib.hid (And.intro (HT5.out.1.gr0 g6) (And.intro HT5.out.2.1 (And.intro (HT5.out.2.2.1.gr0 g6) (And.intro (HT5.out.2.2.2.1.next0 g6) (And.intro (HT5.out.2.2.2.2.1.gr0 g6) (HT5.out.2.2.2.2.2.gr0 g6))))))
      clear g6 c0 c1 c2 c3 HT5
      have c1 := HT6.out.2.2.2.2.1.cell 1
      go_wp2_with fail
      refine (HSl.out _).mono ?_
      rintro e w7 ⟨rfl, g7⟩
      have HT7 := Lib.hid (And.intro (HT6.out.1.gr0 g7) (And.intro HT6.out.2.1 (And.intro (HT6.out.2.2.1.gr0 g7) (And.intro (HT6.out.2.2.2.1.next0 g7) (HT6.out.2.2.2.2.2.gr0 g7)))))
      clear g7 c1 HT6
      have b0 := HT7.out.2.2.2.2.cell 0
      have b1 := HT7.out.2.2.2.2.cell 1
      have b2 := HT7.out.2.2.2.2.cell 2
      go_wp2_with fail
      refine (HWr.out _ HT7.out.1 HT7.out.2.1).mono ?_
      rintro e w8 ⟨rfl, r8, f8, g8⟩
      have HT8 := Lib.hid (And.intro r8 (And.intro f8 (And.intro (HT7.out.2.2.1.gr g8 HSEP.out) (HT7.out.2.2.2.1.trans (g8.mono fun b hb => List.mem_cons_of_mem _ hb)))))
      clear r8 f8 g8 b0 b1 b2 HT7
      have q4 : w8.cell? ⟨rq, 4, none⟩ = some (.int .i64 ((0 : Nat) : Int)) := HT8.out.2.2.1.cell 4
      have f4 : w8.frozen? ⟨rq, 4, none⟩ = false := HT8.out.2.2.1.frozen 4
      have hcw : IntKind.i64.wrap (((0 : Nat) : Int) + 1) = ((0 + 1 : Nat) : Int) := by
        rw [IntWalk.i64_in _ (by have := HCP.out; omega)]
        rfl
      by_cases he : e3 = 0
      · subst he
        clear hcw
        go_wp2_with fail
        go_ret
        have hm := HM.out
        subst hm
        have gs : Gr (rq :: r.all) w8 (w8.setCell ⟨rq, 4, none⟩ (.int .i64 1)) := (Gr.refl (rq :: r.all) w8).setCell (p := ⟨rq, 4, none⟩) (.inl (by simp)) _
        have hs := HT8.out.2.2.1.set 4 (.int .i64 1)
        refine ⟨rfl, HT8.out.1.gr ((Gr.refl [rq] w8).setCell (p := ⟨rq, 4, none⟩) (.inl (by simp)) _) (fun x hx hy => HSEP.out (by rw [← List.mem_singleton.1 hy]; exact hx)), HT8.out.2.1.mono (by omega), ?_, HT8.out.2.2.2.trans gs⟩
        simpa [rqRow] using hs
      · have HE := Lib.hid he
        go_wp2_with fail
        go_ret
        have hm := HM.out
        subst hm
        refine ⟨rfl, HT8.out.1, HT8.out.2.1.mono (by omega), ?_, HT8.out.2.2.2⟩
        rw [if_neg HE.out]
        exact HT8.out.2.2.1
    · rw [if_neg hM] at HT hm
      subst hm
      have HE := Lib.hid hM
      obtain ⟨e9, he9⟩ : ∃ e9, (movZ P D B j).1 = e9 := ⟨_, rfl⟩
      rw [he9] at HE hM ⊢
      go_wp2_with fail
      go_ret
      exact ⟨by rw [← he9]; rfl, HT.out.1, HT.out.2.1.mono (by omega), HT.out.2.2.1, HT.out.2.2.2.1⟩
  · skip
    have hm := HX.out
    unfold regZ at hm
    rw [if_neg hc] at hm
    have HOn := Lib.hid (And.intro HOn0.out.1 (And.intro HOn0.out.2.1 (show j ≤ 4294967295 by have := HJ.out; omega)))
    go_wp2_with fail
    go_quiet (fail)
    have gq : Gr [] w1 (w1.drewN nq) := (Gr.refl [] w1).drewN nq
    have HT := Lib.hid (And.intro (H1.out.1.gr0 gq) (And.intro (HD.out.2.2.mono (show cc ≤ cc + 2800 by omega)) (And.intro (H1.out.2.1.gr0 gq) (And.intro ((H1.out.2.2.1.trans gq).of0 (cs := rq :: r.all)) (H1.out.2.2.2.gr0 gq)))))
    clear gq c1 c3 q4 H1
    generalize w1.drewN nq = w2 at *
    clear HMv HMr HOn0
    have HSt := Lib.hid (fun W (q : RefIs W r D) => show Calls Tryz.prog 42 #[.pointer (some ⟨r.rd, 0, none⟩), .agg #[.int .i64 P.a, .int .i64 (P.l : Int), .int .i64 P.s, .int .i64 P.psi]] W _ from rstate07 HP.out.1 q HOn.out.1 HOn.out.2.1 HOn.out.2.2)
    have HSl := Lib.hid (fun W => rslot07 (j := j) HP.out.1 i HP.out.2 W)
    have HWr := Lib.hid (fun W (q : RefIs W r D) (hf : Fu D (cc + 2800)) => show Calls Tryz.prog 44 #[.pointer (some ⟨r.rd, 0, none⟩), .agg #[.int .i64 P.a, .int .i64 ((P.l : Int) + 2), .int .i64 P.s], .int .i64 (slotJ P j i), .string s] W _ from rwrite_any (p := bankR P) (slotJ P j i) s q HOn.out.1.live HOn.out.1.ti HOn.out.2.1 hf (by have := HCC.out; omega) HP.out.1.ok HSZ.out)
    obtain ⟨⟨e3, D3, B3⟩, hY⟩ : ∃ X, writeS (bankR P) (slotJ P j i) s D B = X := ⟨_, rfl⟩
    rw [hY] at HWr
    simp only [hY] at hm
    have HM := Lib.hid hm
    clear hm
    obtain ⟨S, hS⟩ : ∃ S : Int, sAt P.l j = S := ⟨_, rfl⟩
    obtain ⟨Gg, hGg⟩ : ∃ G : Int, gAt P.l j = G := ⟨_, rfl⟩
    obtain ⟨K, hK⟩ : ∃ K : Int, slotJ P j i = K := ⟨_, rfl⟩
    rw [hS, hGg] at HSt HSl
    rw [hK] at HSl HWr
    clear hS hGg hK hY
    have c0 := HT.out.2.2.2.2.cell 0
    have c1 := HT.out.2.2.2.2.cell 1
    have c2 := HT.out.2.2.2.2.cell 2
    have c3 := HT.out.2.2.2.2.cell 3
    go_wp2_with fail
    refine (HBk.out _).mono ?_
    rintro e w4 ⟨rfl, g4⟩
    have HT4 := Lib.hid (And.intro (HT.out.1.gr0 g4) (And.intro HT.out.2.1 (And.intro (HT.out.2.2.1.gr0 g4) (And.intro (HT.out.2.2.2.1.next0 g4) (HT.out.2.2.2.2.gr0 g4)))))
    clear g4 c0 c1 c2 c3 HT
    go_upto_region 11 with fail
    have hb := Holds.new w4 #[.int .i64 P.a, .int .i64 ((P.l : Int) + 2), .int .i64 P.s] 74
    have ga := (Gr.refl [] w4).alloc (Obj.cells #[.int .i64 P.a, .int .i64 ((P.l : Int) + 2), .int .i64 P.s] 74)
    have HT5 := Lib.hid (And.intro (HT4.out.1.gr0 ga) (And.intro HT4.out.2.1 (And.intro (HT4.out.2.2.1.gr0 ga) (And.intro (HT4.out.2.2.2.1.next0 ga) (And.intro (HT4.out.2.2.2.2.gr0 ga) hb)))))
    have HBB := Lib.hid (show w4.heap.size ∉ r.all from fun e => by have := HT4.out.1.lt _ e; omega)
    clear hb ga HT4
    generalize (w4.alloc (Obj.cells #[.int .i64 P.a, .int .i64 ((P.l : Int) + 2), .int .i64 P.s] 74)) = w5 at *
    obtain ⟨bb, hbb⟩ : ∃ bb, w4.heap.size = bb := ⟨_, rfl⟩
    rw [hbb] at HT5 HBB ⊢
    clear hbb
    have c0 := HT5.out.2.2.2.2.1.cell 0
    have c1 := HT5.out.2.2.2.2.1.cell 1
    have c2 := HT5.out.2.2.2.2.1.cell 2
    have c3 := HT5.out.2.2.2.2.1.cell 3
    go_wp2_with fail
    refine (HSt.out _ HT5.out.1).mono ?_
    rintro e w6 ⟨rfl, g6⟩
    have HT6 := Lib.hid (And.intro (HT5.out.1.gr0 g6) (And.intro HT5.out.2.1 (And.intro (HT5.out.2.2.1.gr0 g6) (And.intro (HT5.out.2.2.2.1.next0 g6) (And.intro (HT5.out.2.2.2.2.1.gr0 g6) (HT5.out.2.2.2.2.2.gr0 g6))))))
    clear g6 c0 c1 c2 c3 HT5
    have c1 := HT6.out.2.2.2.2.1.cell 1
    go_wp2_with fail
    refine (HSl.out _).mono ?_
    rintro e w7 ⟨rfl, g7⟩
    have HT7 := Lib.hid (And.intro (HT6.out.1.gr0 g7) (And.intro HT6.out.2.1 (And.intro (HT6.out.2.2.1.gr0 g7) (And.intro (HT6.out.2.2.2.1.next0 g7) (HT6.out.2.2.2.2.2.gr0 g7)))))
    clear g7 c1 HT6
    have b0 := HT7.out.2.2.2.2.cell 0
    have b1 := HT7.out.2.2.2.2.cell 1
    have b2 := HT7.out.2.2.2.2.cell 2
    go_wp2_with fail
    refine (HWr.out _ HT7.out.1 HT7.out.2.1).mono ?_
    rintro e w8 ⟨rfl, r8, f8, g8⟩
    have HT8 := Lib.hid (And.intro r8 (And.intro f8 (And.intro (HT7.out.2.2.1.gr g8 HSEP.out) (HT7.out.2.2.2.1.trans (g8.mono fun b hb => List.mem_cons_of_mem _ hb)))))
    clear r8 f8 g8 b0 b1 b2 HT7
    have q4 : w8.cell? ⟨rq, 4, none⟩ = some (.int .i64 ((c : Nat) : Int)) := HT8.out.2.2.1.cell 4
    have f4 : w8.frozen? ⟨rq, 4, none⟩ = false := HT8.out.2.2.1.frozen 4
    have hcw : IntKind.i64.wrap (((c : Nat) : Int) + 1) = ((c + 1 : Nat) : Int) := by
      rw [IntWalk.i64_in _ (by have := HCP.out; omega)]
      rfl
    by_cases he : e3 = 0
    · subst he
      obtain ⟨C1, hC1⟩ : ∃ C1 : Nat, C1 = c + 1 := ⟨_, rfl⟩
      rw [← hC1] at hcw
      have HC1 := Lib.hid hC1
      clear hC1
      go_wp2_with fail
      go_ret
      have hm := HM.out
      subst hm
      have gs : Gr (rq :: r.all) w8 (w8.setCell ⟨rq, 4, none⟩ (.int .i64 (C1 : Int))) := (Gr.refl (rq :: r.all) w8).setCell (p := ⟨rq, 4, none⟩) (.inl (by simp)) _
      have hs := HT8.out.2.2.1.set 4 (.int .i64 (C1 : Int))
      refine ⟨rfl, HT8.out.1.gr ((Gr.refl [rq] w8).setCell (p := ⟨rq, 4, none⟩) (.inl (by simp)) _) (fun x hx hy => HSEP.out (by rw [← List.mem_singleton.1 hy]; exact hx)), HT8.out.2.1.mono (by omega), ?_, HT8.out.2.2.2.trans gs⟩
      rw [HC1.out] at hs ⊢
      simpa [rqRow] using hs
    · have HE := Lib.hid he
      go_wp2_with fail
      go_ret
      have hm := HM.out
      subst hm
      refine ⟨rfl, HT8.out.1, HT8.out.2.1.mono (by omega), ?_, HT8.out.2.2.2⟩
      rw [if_neg HE.out]
      exact HT8.out.2.2.1
set_option maxRecDepth 100000 in
set_option maxHeartbeats 16000000 in
theorem rww07 (i k v : Nat) (hk : k < 8) (hv : v < 18446744073709551616) (hi : i < P.l) (hP : OkR P) (h : RefIs w r D) (hq : Holds w rq (rqRow P c) 34) (hrq : rq ∉ r.all) (hO : OnR P D B j) (hbb : MBB D) (hb : Fu D cc) (hcc : cc < 400000) (hj : j < 4294967294) (hc9 : c ≤ 65536) :
    Calls Tryz.prog 11 #[.pointer (some ⟨r.rd, 0, none⟩), .pointer (some ⟨rq, 0, none⟩), .int .i64 (i : Int), .string ⟨#[]⟩, .int .i64 (k : Int), .int .u64 (v : Int)] w (RqPost w r P rq cc (regZ P i (fun z => writeWordS (bankR P) z (k : Int) v) D B j c)) := by
  obtain ⟨X, hX⟩ : ∃ X, X = regZ P i (fun z => writeWordS (bankR P) z (k : Int) v) D B j c := ⟨_, rfl⟩
  rw [← hX]
  have HX := Lib.hid hX
  have HP := Lib.hid (And.intro hP hi)
  have HBk := Lib.hid (fun W => show Calls Tryz.prog 26 #[.agg #[.int .i64 P.a, .int .i64 (P.l : Int), .int .i64 P.s, .int .i64 P.psi]] W _ from rbank07 hP W)
  have HMv := Lib.hid (fun W (q1 : RefIs W r D) (q2 : Holds W rq (rqRow P c) 34) => rmove07 hP q1 q2 hrq hO hbb hb (by omega) (by omega))
  have HMr := Lib.hid (hO.move hP hbb.1 hbb (by omega))
  have HOn0 := Lib.hid (And.intro hO hbb)
  have HJ := Lib.hid hj
  have HCC := Lib.hid hcc
  have HCP := Lib.hid hc9
  have HSEP := Lib.hid hrq
  have HD := Lib.hid (And.intro h (And.intro hq hb))
  have q0 := hq.cell 0
  have q1 := hq.cell 1
  have q2 := hq.cell 2
  have q3 := hq.cell 3
  unfold rqRow at q0 q1 q2 q3
  have ik1 : ¬ ((i : Int) < 0) := by omega
  have ik2 : ¬ ((P.l : Int) ≤ (i : Int)) := by omega
  have HSZ := Lib.hid hv
  have ik3 : ¬ ((k : Int) < 0) := by omega
  have ik4 : ¬ (7 < (k : Int)) := by omega
  unfold planV bankR at HBk
  simp only at HBk
  clear hX hP h hq hrq hO hbb hb hcc hj hc9 hi hk hv
  go_enter Tryz.func11, Tryz.ntmps11
  go_upto_region 4 with fail
  have hx := Holds.new w #[.int .i64 P.a, .int .i64 (P.l : Int), .int .i64 P.s, .int .i64 P.psi] 25
  have ga := (Gr.refl [] w).alloc (Obj.cells #[.int .i64 P.a, .int .i64 (P.l : Int), .int .i64 P.s, .int .i64 P.psi] 25)
  have H1 := Lib.hid (And.intro (HD.out.1.gr0 ga) (And.intro (HD.out.2.1.gr0 ga) (And.intro ga hx)))
  have HPB := Lib.hid (show w.heap.size ∉ rq :: r.all from fun e => by
    rcases List.mem_cons.1 e with e | e
    · have := HD.out.2.1.lt; omega
    · have := HD.out.1.lt _ e; omega)
  clear hx ga q0 q1 q2 q3
  generalize (w.alloc (Obj.cells #[.int .i64 P.a, .int .i64 (P.l : Int), .int .i64 P.s, .int .i64 P.psi] 25)) = w1 at *
  obtain ⟨pb, hpb⟩ : ∃ pb, w.heap.size = pb := ⟨_, rfl⟩
  rw [hpb] at H1 HPB ⊢
  clear hpb
  have c1 := H1.out.2.2.2.cell 1
  have c3 := H1.out.2.2.2.cell 3
  have q4 : w1.cell? ⟨rq, 4, none⟩ = some (.int .i64 (c : Int)) := H1.out.2.1.cell 4
  by_cases hc : P.psi ≤ (c : Int)
  · skip
    go_wp2_with fail
    go_quiet (fail)
    have gq : Gr [] w1 (w1.drewN nq) := (Gr.refl [] w1).drewN nq
    have H2 := Lib.hid (And.intro (H1.out.1.gr0 gq) (And.intro (H1.out.2.1.gr0 gq) (And.intro (H1.out.2.2.1.trans gq) (H1.out.2.2.2.gr0 gq))))
    clear gq c1 c3 q4 H1
    generalize w1.drewN nq = w2 at *
    go_wp2_with fail
    refine (HMv.out _ H2.out.1 H2.out.2.1).mono ?_
    rintro e w3 ⟨rfl, r3, f3, q3, g3⟩
    have hpbl := H2.out.2.2.2.gr g3 HPB.out
    have HT := Lib.hid (And.intro r3 (And.intro f3 (And.intro q3 (And.intro ((H2.out.2.2.1.of0 (cs := rq :: r.all)).trans g3) hpbl))))
    clear r3 f3 q3 g3 hpbl H2 HMv
    have hm := HX.out
    unfold regZ at hm
    rw [if_pos hc] at hm
    by_cases hM : (movZ P D B j).1 = 0
    · rw [if_pos hM] at HT hm
      have HOn := Lib.hid (And.intro (HMr.out.1 hM) (And.intro HMr.out.2.2.2.1 (show j + 1 ≤ 4294967295 by have := HJ.out; omega)))
      obtain ⟨⟨e2, D2, B2⟩, hMv⟩ : ∃ X, movZ P D B j = X := ⟨_, rfl⟩
      rw [hMv] at HT hm HOn hM ⊢
      simp only at HT hm HOn hM ⊢
      subst hM
      have HCP := Lib.hid (show 0 ≤ 65536 by omega)
      clear hMv HMr HOn0
      have HSt := Lib.hid (fun W (q : RefIs W r D2) => show Calls Tryz.prog 42 #[.pointer (some ⟨r.rd, 0, none⟩), .agg #[.int .i64 P.a, .int .i64 (P.l : Int), .int .i64 P.s, .int .i64 P.psi]] W _ from rstate07 HP.out.1 q HOn.out.1 HOn.out.2.1 HOn.out.2.2)
      have HSl := Lib.hid (fun W => rslot07 (j := (j + 1)) HP.out.1 i HP.out.2 W)
      have HWr := Lib.hid (fun W (q : RefIs W r D2) (hf : Fu D2 (cc + 2800)) => show Calls Tryz.prog 45 #[.pointer (some ⟨r.rd, 0, none⟩), .agg #[.int .i64 P.a, .int .i64 ((P.l : Int) + 2), .int .i64 P.s], .int .i64 (slotJ P (j + 1) i), .int .i64 (k : Int), .int .u64 (v : Int)] W _ from rww_any (p := bankR P) (slotJ P (j + 1) i) (k : Int) v q HOn.out.1.live HOn.out.1.ti HOn.out.2.1 hf (by have := HCC.out; omega) HP.out.1.ok HSZ.out)
      obtain ⟨⟨e3, D3, B3⟩, hY⟩ : ∃ X, writeWordS (bankR P) (slotJ P (j + 1) i) (k : Int) v D2 B2 = X := ⟨_, rfl⟩
      rw [hY] at HWr
      simp only [hY] at hm
      have HM := Lib.hid hm
      clear hm
      obtain ⟨S, hS⟩ : ∃ S : Int, sAt P.l (j + 1) = S := ⟨_, rfl⟩
      obtain ⟨Gg, hGg⟩ : ∃ G : Int, gAt P.l (j + 1) = G := ⟨_, rfl⟩
      obtain ⟨K, hK⟩ : ∃ K : Int, slotJ P (j + 1) i = K := ⟨_, rfl⟩
      rw [hS, hGg] at HSt HSl
      rw [hK] at HSl HWr
      clear hS hGg hK hY
      have c0 := HT.out.2.2.2.2.cell 0
      have c1 := HT.out.2.2.2.2.cell 1
      have c2 := HT.out.2.2.2.2.cell 2
      have c3 := HT.out.2.2.2.2.cell 3
      go_wp2_with fail
      refine (HBk.out _).mono ?_
      rintro e w4 ⟨rfl, g4⟩
      have HT4 := Lib.hid (And.intro (HT.out.1.gr0 g4) (And.intro HT.out.2.1 (And.intro (HT.out.2.2.1.gr0 g4) (And.intro (HT.out.2.2.2.1.next0 g4) (HT.out.2.2.2.2.gr0 g4)))))
      clear g4 c0 c1 c2 c3 HT
      go_upto_region 11 with fail
      have hb := Holds.new w4 #[.int .i64 P.a, .int .i64 ((P.l : Int) + 2), .int .i64 P.s] 74
      have ga := (Gr.refl [] w4).alloc (Obj.cells #[.int .i64 P.a, .int .i64 ((P.l : Int) + 2), .int .i64 P.s] 74)
      have HT5 := Lib.hid (And.intro (HT4.out.1.gr0 ga) (And.intro HT4.out.2.1 (And.intro (HT4.out.2.2.1.gr0 ga) (And.intro (HT4.out.2.2.2.1.next0 ga) (And.intro (HT4.out.2.2.2.2.gr0 ga) hb)))))
      have HBB := Lib.hid (show w4.heap.size ∉ r.all from fun e => by have := HT4.out.1.lt _ e; omega)
      clear hb ga HT4
      generalize (w4.alloc (Obj.cells #[.int .i64 P.a, .int .i64 ((P.l : Int) + 2), .int .i64 P.s] 74)) = w5 at *
      obtain ⟨bb, hbb⟩ : ∃ bb, w4.heap.size = bb := ⟨_, rfl⟩
      rw [hbb] at HT5 HBB ⊢
      clear hbb
      have c0 := HT5.out.2.2.2.2.1.cell 0
      have c1 := HT5.out.2.2.2.2.1.cell 1
      have c2 := HT5.out.2.2.2.2.1.cell 2
      have c3 := HT5.out.2.2.2.2.1.cell 3
      go_wp2_with fail
      refine (HSt.out _ HT5.out.1).mono ?_
      rintro e w6 ⟨rfl, g6⟩
      have HT6 := Lib.hid (And.intro (HT5.out.1.gr0 g6) (And.intro HT5.out.2.1 (And.intro (HT5.out.2.2.1.gr0 g6) (And.intro (HT5.out.2.2.2.1.next0 g6) (And.intro (HT5.out.2.2.2.2.1.gr0 g6) (HT5.out.2.2.2.2.2.gr0 g6))))))
      clear g6 c0 c1 c2 c3 HT5
      have c1 := HT6.out.2.2.2.2.1.cell 1
      go_wp2_with fail
      refine (HSl.out _).mono ?_
      rintro e w7 ⟨rfl, g7⟩
      have HT7 := Lib.hid (And.intro (HT6.out.1.gr0 g7) (And.intro HT6.out.2.1 (And.intro (HT6.out.2.2.1.gr0 g7) (And.intro (HT6.out.2.2.2.1.next0 g7) (HT6.out.2.2.2.2.2.gr0 g7)))))
      clear g7 c1 HT6
      have b0 := HT7.out.2.2.2.2.cell 0
      have b1 := HT7.out.2.2.2.2.cell 1
      have b2 := HT7.out.2.2.2.2.cell 2
      go_wp2_with fail
      refine (HWr.out _ HT7.out.1 HT7.out.2.1).mono ?_
      rintro e w8 ⟨rfl, r8, f8, g8⟩
      have HT8 := Lib.hid (And.intro r8 (And.intro f8 (And.intro (HT7.out.2.2.1.gr g8 HSEP.out) (HT7.out.2.2.2.1.trans (g8.mono fun b hb => List.mem_cons_of_mem _ hb)))))
      clear r8 f8 g8 b0 b1 b2 HT7
      have q4 : w8.cell? ⟨rq, 4, none⟩ = some (.int .i64 ((0 : Nat) : Int)) := HT8.out.2.2.1.cell 4
      have f4 : w8.frozen? ⟨rq, 4, none⟩ = false := HT8.out.2.2.1.frozen 4
      have hcw : IntKind.i64.wrap (((0 : Nat) : Int) + 1) = ((0 + 1 : Nat) : Int) := by
        rw [IntWalk.i64_in _ (by have := HCP.out; omega)]
        rfl
      by_cases he : e3 = 0
      · subst he
        clear hcw
        go_wp2_with fail
        go_ret
        have hm := HM.out
        subst hm
        have gs : Gr (rq :: r.all) w8 (w8.setCell ⟨rq, 4, none⟩ (.int .i64 1)) := (Gr.refl (rq :: r.all) w8).setCell (p := ⟨rq, 4, none⟩) (.inl (by simp)) _
        have hs := HT8.out.2.2.1.set 4 (.int .i64 1)
        refine ⟨rfl, HT8.out.1.gr ((Gr.refl [rq] w8).setCell (p := ⟨rq, 4, none⟩) (.inl (by simp)) _) (fun x hx hy => HSEP.out (by rw [← List.mem_singleton.1 hy]; exact hx)), HT8.out.2.1.mono (by omega), ?_, HT8.out.2.2.2.trans gs⟩
        simpa [rqRow] using hs
      · have HE := Lib.hid he
        go_wp2_with fail
        go_ret
        have hm := HM.out
        subst hm
        refine ⟨rfl, HT8.out.1, HT8.out.2.1.mono (by omega), ?_, HT8.out.2.2.2⟩
        rw [if_neg HE.out]
        exact HT8.out.2.2.1
    · rw [if_neg hM] at HT hm
      subst hm
      have HE := Lib.hid hM
      obtain ⟨e9, he9⟩ : ∃ e9, (movZ P D B j).1 = e9 := ⟨_, rfl⟩
      rw [he9] at HE hM ⊢
      go_wp2_with fail
      go_ret
      exact ⟨by rw [← he9]; rfl, HT.out.1, HT.out.2.1.mono (by omega), HT.out.2.2.1, HT.out.2.2.2.1⟩
  · skip
    have hm := HX.out
    unfold regZ at hm
    rw [if_neg hc] at hm
    have HOn := Lib.hid (And.intro HOn0.out.1 (And.intro HOn0.out.2.1 (show j ≤ 4294967295 by have := HJ.out; omega)))
    go_wp2_with fail
    go_quiet (fail)
    have gq : Gr [] w1 (w1.drewN nq) := (Gr.refl [] w1).drewN nq
    have HT := Lib.hid (And.intro (H1.out.1.gr0 gq) (And.intro (HD.out.2.2.mono (show cc ≤ cc + 2800 by omega)) (And.intro (H1.out.2.1.gr0 gq) (And.intro ((H1.out.2.2.1.trans gq).of0 (cs := rq :: r.all)) (H1.out.2.2.2.gr0 gq)))))
    clear gq c1 c3 q4 H1
    generalize w1.drewN nq = w2 at *
    clear HMv HMr HOn0
    have HSt := Lib.hid (fun W (q : RefIs W r D) => show Calls Tryz.prog 42 #[.pointer (some ⟨r.rd, 0, none⟩), .agg #[.int .i64 P.a, .int .i64 (P.l : Int), .int .i64 P.s, .int .i64 P.psi]] W _ from rstate07 HP.out.1 q HOn.out.1 HOn.out.2.1 HOn.out.2.2)
    have HSl := Lib.hid (fun W => rslot07 (j := j) HP.out.1 i HP.out.2 W)
    have HWr := Lib.hid (fun W (q : RefIs W r D) (hf : Fu D (cc + 2800)) => show Calls Tryz.prog 45 #[.pointer (some ⟨r.rd, 0, none⟩), .agg #[.int .i64 P.a, .int .i64 ((P.l : Int) + 2), .int .i64 P.s], .int .i64 (slotJ P j i), .int .i64 (k : Int), .int .u64 (v : Int)] W _ from rww_any (p := bankR P) (slotJ P j i) (k : Int) v q HOn.out.1.live HOn.out.1.ti HOn.out.2.1 hf (by have := HCC.out; omega) HP.out.1.ok HSZ.out)
    obtain ⟨⟨e3, D3, B3⟩, hY⟩ : ∃ X, writeWordS (bankR P) (slotJ P j i) (k : Int) v D B = X := ⟨_, rfl⟩
    rw [hY] at HWr
    simp only [hY] at hm
    have HM := Lib.hid hm
    clear hm
    obtain ⟨S, hS⟩ : ∃ S : Int, sAt P.l j = S := ⟨_, rfl⟩
    obtain ⟨Gg, hGg⟩ : ∃ G : Int, gAt P.l j = G := ⟨_, rfl⟩
    obtain ⟨K, hK⟩ : ∃ K : Int, slotJ P j i = K := ⟨_, rfl⟩
    rw [hS, hGg] at HSt HSl
    rw [hK] at HSl HWr
    clear hS hGg hK hY
    have c0 := HT.out.2.2.2.2.cell 0
    have c1 := HT.out.2.2.2.2.cell 1
    have c2 := HT.out.2.2.2.2.cell 2
    have c3 := HT.out.2.2.2.2.cell 3
    go_wp2_with fail
    refine (HBk.out _).mono ?_
    rintro e w4 ⟨rfl, g4⟩
    have HT4 := Lib.hid (And.intro (HT.out.1.gr0 g4) (And.intro HT.out.2.1 (And.intro (HT.out.2.2.1.gr0 g4) (And.intro (HT.out.2.2.2.1.next0 g4) (HT.out.2.2.2.2.gr0 g4)))))
    clear g4 c0 c1 c2 c3 HT
    go_upto_region 11 with fail
    have hb := Holds.new w4 #[.int .i64 P.a, .int .i64 ((P.l : Int) + 2), .int .i64 P.s] 74
    have ga := (Gr.refl [] w4).alloc (Obj.cells #[.int .i64 P.a, .int .i64 ((P.l : Int) + 2), .int .i64 P.s] 74)
    have HT5 := Lib.hid (And.intro (HT4.out.1.gr0 ga) (And.intro HT4.out.2.1 (And.intro (HT4.out.2.2.1.gr0 ga) (And.intro (HT4.out.2.2.2.1.next0 ga) (And.intro (HT4.out.2.2.2.2.gr0 ga) hb)))))
    have HBB := Lib.hid (show w4.heap.size ∉ r.all from fun e => by have := HT4.out.1.lt _ e; omega)
    clear hb ga HT4
    generalize (w4.alloc (Obj.cells #[.int .i64 P.a, .int .i64 ((P.l : Int) + 2), .int .i64 P.s] 74)) = w5 at *
    obtain ⟨bb, hbb⟩ : ∃ bb, w4.heap.size = bb := ⟨_, rfl⟩
    rw [hbb] at HT5 HBB ⊢
    clear hbb
    have c0 := HT5.out.2.2.2.2.1.cell 0
    have c1 := HT5.out.2.2.2.2.1.cell 1
    have c2 := HT5.out.2.2.2.2.1.cell 2
    have c3 := HT5.out.2.2.2.2.1.cell 3
    go_wp2_with fail
    refine (HSt.out _ HT5.out.1).mono ?_
    rintro e w6 ⟨rfl, g6⟩
    have HT6 := Lib.hid (And.intro (HT5.out.1.gr0 g6) (And.intro HT5.out.2.1 (And.intro (HT5.out.2.2.1.gr0 g6) (And.intro (HT5.out.2.2.2.1.next0 g6) (And.intro (HT5.out.2.2.2.2.1.gr0 g6) (HT5.out.2.2.2.2.2.gr0 g6))))))
    clear g6 c0 c1 c2 c3 HT5
    have c1 := HT6.out.2.2.2.2.1.cell 1
    go_wp2_with fail
    refine (HSl.out _).mono ?_
    rintro e w7 ⟨rfl, g7⟩
    have HT7 := Lib.hid (And.intro (HT6.out.1.gr0 g7) (And.intro HT6.out.2.1 (And.intro (HT6.out.2.2.1.gr0 g7) (And.intro (HT6.out.2.2.2.1.next0 g7) (HT6.out.2.2.2.2.2.gr0 g7)))))
    clear g7 c1 HT6
    have b0 := HT7.out.2.2.2.2.cell 0
    have b1 := HT7.out.2.2.2.2.cell 1
    have b2 := HT7.out.2.2.2.2.cell 2
    go_wp2_with fail
    refine (HWr.out _ HT7.out.1 HT7.out.2.1).mono ?_
    rintro e w8 ⟨rfl, r8, f8, g8⟩
    have HT8 := Lib.hid (And.intro r8 (And.intro f8 (And.intro (HT7.out.2.2.1.gr g8 HSEP.out) (HT7.out.2.2.2.1.trans (g8.mono fun b hb => List.mem_cons_of_mem _ hb)))))
    clear r8 f8 g8 b0 b1 b2 HT7
    have q4 : w8.cell? ⟨rq, 4, none⟩ = some (.int .i64 ((c : Nat) : Int)) := HT8.out.2.2.1.cell 4
    have f4 : w8.frozen? ⟨rq, 4, none⟩ = false := HT8.out.2.2.1.frozen 4
    have hcw : IntKind.i64.wrap (((c : Nat) : Int) + 1) = ((c + 1 : Nat) : Int) := by
      rw [IntWalk.i64_in _ (by have := HCP.out; omega)]
      rfl
    by_cases he : e3 = 0
    · subst he
      obtain ⟨C1, hC1⟩ : ∃ C1 : Nat, C1 = c + 1 := ⟨_, rfl⟩
      rw [← hC1] at hcw
      have HC1 := Lib.hid hC1
      clear hC1
      go_wp2_with fail
      go_ret
      have hm := HM.out
      subst hm
      have gs : Gr (rq :: r.all) w8 (w8.setCell ⟨rq, 4, none⟩ (.int .i64 (C1 : Int))) := (Gr.refl (rq :: r.all) w8).setCell (p := ⟨rq, 4, none⟩) (.inl (by simp)) _
      have hs := HT8.out.2.2.1.set 4 (.int .i64 (C1 : Int))
      refine ⟨rfl, HT8.out.1.gr ((Gr.refl [rq] w8).setCell (p := ⟨rq, 4, none⟩) (.inl (by simp)) _) (fun x hx hy => HSEP.out (by rw [← List.mem_singleton.1 hy]; exact hx)), HT8.out.2.1.mono (by omega), ?_, HT8.out.2.2.2.trans gs⟩
      rw [HC1.out] at hs ⊢
      simpa [rqRow] using hs
    · have HE := Lib.hid he
      go_wp2_with fail
      go_ret
      have hm := HM.out
      subst hm
      refine ⟨rfl, HT8.out.1, HT8.out.2.1.mono (by omega), ?_, HT8.out.2.2.2⟩
      rw [if_neg HE.out]
      exact HT8.out.2.2.1
end
end Go.Proofs.YtdgcninmpcmdcaaGreat

/-
  RingPlays: a write of any line, of any word, on both sides, in one word.
-/
namespace Go.Proofs.YtdgcninmpcmdcaaGreat
open Go.RowKit
set_option linter.unusedVariables false

/-- A line's write, whatever its arguments. -/
def linZ (P : PlanR) (i : Int) (s : ByteArray) (D : DevS) (B : BkS) (j c : Nat) : Int × DevS × BkS × Nat × Nat :=
  if s.size ≠ 64 then (2, D, B, j, c) else if i < 0 ∨ (P.l : Int) ≤ i then (3, D, B, j, c) else regZ P i.toNat (fun z => writeS (bankR P) z s) D B j c
/-- A word's write, whatever its arguments. -/
def worZ (P : PlanR) (i k : Int) (v : Nat) (D : DevS) (B : BkS) (j c : Nat) : Int × DevS × BkS × Nat × Nat :=
  if k < 0 ∨ 8 ≤ k then (2, D, B, j, c) else if i < 0 ∨ (P.l : Int) ≤ i then (3, D, B, j, c) else regZ P i.toNat (fun z => writeWordS (bankR P) z (k.toNat : Int) v) D B j c
section
variable {w w' : World} {r : RefA} {D : DevS} {P : PlanR} {B : BkS} {j c cc m rq kb : Nat} {q : BkA} {a : DevA}
theorem OnR.mv1 (hP : OkR P) (hmb : MB D) (h : OnR P D B j) (hj : j < 4294967295) : (readR D (bankR P) B (fromI P j)).2 = 0 ∧ (writeS (bankR P) (toI P j) (readR D (bankR P) B (fromI P j)).1 D B).2.1.n = D.n ∧ (movZ P D B j).2.1.n = D.n := by
  obtain ⟨a1, a2, a3, _⟩ := move_last hP h.live hmb h.rgc hj
  exact ⟨a1, a2, a3⟩
/-- The program's. -/
theorem pline_any (hP : OkR P) (i : Int) (s : ByteArray) (hs : s.size ≤ maxLen) (h : RgIs w kb q a P B m j c) (hd : DevIs w a D) (hb : Bd D cc) (hcc : cc < 400000) (hm : m < 70000) (hO : OnR P D B j) (hj : j < 4294967294) :
    Calls Tryz.prog 9 #[.pointer (some ⟨kb, 0, none⟩), .int .i64 i, .string s] w (RgPost w kb q a P m cc (linZ P i s D B j c)) := by
  unfold linZ
  by_cases h64 : s.size = 64
  · rw [if_neg (by simp [h64])]
    by_cases ho : i < 0 ∨ (P.l : Int) ≤ i
    · rw [if_pos ho]
      refine (rgwrite_out i s h h64 ho).mono ?_
      rintro e w2 ⟨rfl, g⟩
      exact ⟨rfl, hd.gr0 g, hb.mono (by omega), (h.gr0 g).moreN (by omega), g.of0⟩
    · rw [if_neg ho]
      obtain ⟨n, rfl⟩ : ∃ n : Nat, i = (n : Int) := ⟨i.toNat, by omega⟩
      rw [Int.toNat_natCast]
      exact rgwrite_any n s h hd hb (by omega) hm (by omega) h64 (by omega) hO.ti.fits (fun _ => hO.mv1 hP hd.ok.medB (by omega))
  · rw [if_pos h64]
    refine (rgwrite_len i s h64 hs).mono ?_
    rintro e w2 ⟨rfl, g⟩
    exact ⟨rfl, hd.gr0 g, hb.mono (by omega), (h.gr0 g).moreN (by omega), g.of0⟩
theorem pword_any (hP : OkR P) (i k : Int) (v : Nat) (hv : v < 18446744073709551616) (h : RgIs w kb q a P B m j c) (hd : DevIs w a D) (hb : Bd D cc) (hcc : cc < 400000) (hm : m < 70000) (hO : OnR P D B j) (hj : j < 4294967294) :
    Calls Tryz.prog 12 #[.pointer (some ⟨kb, 0, none⟩), .int .i64 i, .int .i64 k, .int .u64 (v : Int)] w (RgPost w kb q a P m cc (worZ P i k v D B j c)) := by
  unfold worZ
  by_cases hk : k < 0 ∨ 8 ≤ k
  · rw [if_pos hk]
    refine (rgww_arg i k v hk).mono ?_
    rintro e w2 ⟨rfl, g⟩
    exact ⟨rfl, hd.gr0 g, hb.mono (by omega), (h.gr0 g).moreN (by omega), g.of0⟩
  · rw [if_neg hk]
    by_cases ho : i < 0 ∨ (P.l : Int) ≤ i
    · rw [if_pos ho]
      refine (rgww_out i k v h (by omega) (by omega) ho).mono ?_
      rintro e w2 ⟨rfl, g⟩
      exact ⟨rfl, hd.gr0 g, hb.mono (by omega), (h.gr0 g).moreN (by omega), g.of0⟩
    · rw [if_neg ho]
      obtain ⟨n, rfl⟩ : ∃ n : Nat, i = (n : Int) := ⟨i.toNat, by omega⟩
      obtain ⟨kN, rfl⟩ : ∃ n : Nat, k = (n : Int) := ⟨k.toNat, by omega⟩
      rw [Int.toNat_natCast, Int.toNat_natCast]
      exact rgww_any n kN v h hd hb (by omega) hm (by omega) (by omega) hv (by omega) hO.ti.fits (fun _ => hO.mv1 hP hd.ok.medB (by omega))
/-- The document's refusals. -/
theorem rwrite07_len (i : Int) (s : ByteArray) (hs : s.size ≠ 64) (hm : s.size ≤ maxLen) (u v : Value) (w : World) :
    Calls Tryz.prog 11 #[u, v, .int .i64 i, .string s, .int .i64 (-1), .int .u64 0] w fun e w' => e = .returned (.int .i64 2) ∧ Gr [] w w' := by
  have hs2 : ¬ (s.size : Int) = 64 := by omega
  unfold maxLen at hm
  go_enter Tryz.func11, Tryz.ntmps11
  go_wp2_with fail
  go_ret
  exact ⟨rfl, Gr.refl _ _⟩
theorem rww07_arg (i k : Int) (z : Int) (hk : 8 ≤ k) (u v : Value) (w : World) :
    Calls Tryz.prog 11 #[u, v, .int .i64 i, .string ⟨#[]⟩, .int .i64 k, .int .u64 z] w fun e w' => e = .returned (.int .i64 2) ∧ Gr [] w w' := by
  have ik1 : ¬ (k < 0) := by omega
  have ik2 : 7 < k := by omega
  clear hk
  go_enter Tryz.func11, Tryz.ntmps11
  go_wp2_with fail
  go_ret
  exact ⟨rfl, Gr.refl _ _⟩
set_option maxRecDepth 100000 in
set_option maxHeartbeats 8000000 in
theorem rwrite07_out (i : Int) (s : ByteArray) (hs : s.size = 64) (ho : i < 0 ∨ (P.l : Int) ≤ i) (hq : Holds w rq (rqRow P c) 34) (u : Value) :
    Calls Tryz.prog 11 #[u, .pointer (some ⟨rq, 0, none⟩), .int .i64 i, .string s, .int .i64 (-1), .int .u64 0] w fun e w' => e = .returned (.int .i64 3) ∧ Gr [] w w' := by
  have hs64 : (s.size : Int) = 64 := by omega
  have q0 := hq.cell 0
  have q1 := hq.cell 1
  have q2 := hq.cell 2
  have q3 := hq.cell 3
  unfold rqRow at q0 q1 q2 q3
  have HG := Lib.hid ((Gr.refl [] w).alloc (Obj.cells #[.int .i64 P.a, .int .i64 (P.l : Int), .int .i64 P.s, .int .i64 P.psi] 25))
  by_cases ik : i < 0
  · clear ho hs hq
    go_enter Tryz.func11, Tryz.ntmps11
    go_wp2_with fail
    go_ret
    exact ⟨rfl, HG.out⟩
  · have ik2 : (P.l : Int) ≤ i := by omega
    clear ho hs hq
    go_enter Tryz.func11, Tryz.ntmps11
    go_wp2_with fail
    go_ret
    exact ⟨rfl, HG.out⟩
set_option maxRecDepth 100000 in
set_option maxHeartbeats 8000000 in
theorem rww07_out (i k z : Int) (h0 : 0 ≤ k) (h8 : k < 8) (ho : i < 0 ∨ (P.l : Int) ≤ i) (hq : Holds w rq (rqRow P c) 34) (u : Value) :
    Calls Tryz.prog 11 #[u, .pointer (some ⟨rq, 0, none⟩), .int .i64 i, .string ⟨#[]⟩, .int .i64 k, .int .u64 z] w fun e w' => e = .returned (.int .i64 3) ∧ Gr [] w w' := by
  have ik3 : ¬ (k < 0) := by omega
  have ik4 : ¬ (7 < k) := by omega
  have q0 := hq.cell 0
  have q1 := hq.cell 1
  have q2 := hq.cell 2
  have q3 := hq.cell 3
  unfold rqRow at q0 q1 q2 q3
  have HG := Lib.hid ((Gr.refl [] w).alloc (Obj.cells #[.int .i64 P.a, .int .i64 (P.l : Int), .int .i64 P.s, .int .i64 P.psi] 25))
  by_cases ik : i < 0
  · clear ho h0 h8 hq
    go_enter Tryz.func11, Tryz.ntmps11
    go_wp2_with fail
    go_ret
    exact ⟨rfl, HG.out⟩
  · have ik2 : (P.l : Int) ≤ i := by omega
    clear ho h0 h8 hq
    go_enter Tryz.func11, Tryz.ntmps11
    go_wp2_with fail
    go_ret
    exact ⟨rfl, HG.out⟩
/-- The document's. -/
theorem rline_any (hP : OkR P) (i : Int) (s : ByteArray) (hs : s.size ≤ maxLen) (h : RefIs w r D) (hq : Holds w rq (rqRow P c) 34) (hrq : rq ∉ r.all) (hO : OnR P D B j) (hbb : MBB D) (hb : Fu D cc) (hcc : cc < 400000) (hj : j < 4294967294) (hc9 : c ≤ 65536) :
    Calls Tryz.prog 11 #[.pointer (some ⟨r.rd, 0, none⟩), .pointer (some ⟨rq, 0, none⟩), .int .i64 i, .string s, .int .i64 (-1), .int .u64 0] w (RqPost w r P rq cc (linZ P i s D B j c)) := by
  unfold linZ
  by_cases h64 : s.size = 64
  · rw [if_neg (by simp [h64])]
    by_cases ho : i < 0 ∨ (P.l : Int) ≤ i
    · rw [if_pos ho]
      refine (rwrite07_out i s h64 ho hq _).mono ?_
      rintro e w2 ⟨rfl, g⟩
      exact ⟨rfl, h.gr0 g, hb.mono (by omega), hq.gr0 g, g.of0⟩
    · rw [if_neg ho]
      obtain ⟨n, rfl⟩ : ∃ n : Nat, i = (n : Int) := ⟨i.toNat, by omega⟩
      rw [Int.toNat_natCast]
      exact rwrite07 n s h64 (by omega) hP h hq hrq hO hbb hb hcc hj hc9
  · rw [if_pos h64]
    refine (rwrite07_len i s h64 hs _ _ w).mono ?_
    rintro e w2 ⟨rfl, g⟩
    exact ⟨rfl, h.gr0 g, hb.mono (by omega), hq.gr0 g, g.of0⟩
theorem rword_any (hP : OkR P) (i k : Int) (hk0 : 0 ≤ k) (v : Nat) (hv : v < 18446744073709551616) (h : RefIs w r D) (hq : Holds w rq (rqRow P c) 34) (hrq : rq ∉ r.all) (hO : OnR P D B j) (hbb : MBB D) (hb : Fu D cc) (hcc : cc < 400000) (hj : j < 4294967294) (hc9 : c ≤ 65536) :
    Calls Tryz.prog 11 #[.pointer (some ⟨r.rd, 0, none⟩), .pointer (some ⟨rq, 0, none⟩), .int .i64 i, .string ⟨#[]⟩, .int .i64 k, .int .u64 (v : Int)] w (RqPost w r P rq cc (worZ P i k v D B j c)) := by
  unfold worZ
  by_cases hk : k < 0 ∨ 8 ≤ k
  · rw [if_pos hk]
    refine (rww07_arg i k _ (by omega) _ _ w).mono ?_
    rintro e w2 ⟨rfl, g⟩
    exact ⟨rfl, h.gr0 g, hb.mono (by omega), hq.gr0 g, g.of0⟩
  · rw [if_neg hk]
    by_cases ho : i < 0 ∨ (P.l : Int) ≤ i
    · rw [if_pos ho]
      refine (rww07_out i k _ hk0 (by omega) ho hq _).mono ?_
      rintro e w2 ⟨rfl, g⟩
      exact ⟨rfl, h.gr0 g, hb.mono (by omega), hq.gr0 g, g.of0⟩
    · rw [if_neg ho]
      obtain ⟨n, rfl⟩ : ∃ n : Nat, i = (n : Int) := ⟨i.toNat, by omega⟩
      obtain ⟨kN, rfl⟩ : ∃ n : Nat, k = (n : Int) := ⟨k.toNat, by omega⟩
      rw [Int.toNat_natCast, Int.toNat_natCast]
      exact rww07 n kN v (by omega) hv (by omega) hP h hq hrq hO hbb hb hcc hj hc9
/-- On behind it, or the power failed. -/
def AftR (P : PlanR) (j n : Nat) (X : Int × DevS × BkS × Nat × Nat) : Prop := (X.1 ≠ 6 → OnR P X.2.1 X.2.2.1 X.2.2.2.1) ∧ (X.1 = 6 → OffR P X.2.2.2.1 X.2.1) ∧ X.2.1.n = n ∧ X.2.2.2.1 ≤ j + 1
theorem OnR.lin (hP : OkR P) (hmb : MB D) (hbb : MBB D) (h : OnR P D B j) (hj : j < 4294967295) (i : Int) (s : ByteArray) : AftR P j D.n (linZ P i s D B j c) := by
  unfold linZ AftR
  by_cases h64 : s.size = 64
  · rw [if_neg (by simp [h64])]
    by_cases ho : i < 0 ∨ (P.l : Int) ≤ i
    · rw [if_pos ho]
      exact ⟨fun _ => h, fun q => (by omega), rfl, by show j ≤ j + 1; omega⟩
    · rw [if_neg ho]
      exact h.regZ hP hmb hbb hj (by omega) fun z D B j h0 h1 hm hO => hO.line hP h0 h1 h64
  · rw [if_pos h64]
    exact ⟨fun _ => h, fun q => (by omega), rfl, by show j ≤ j + 1; omega⟩
theorem OnR.wor (hP : OkR P) (hmb : MB D) (hbb : MBB D) (h : OnR P D B j) (hj : j < 4294967295) (i k : Int) {v : Nat} (hv : v < 18446744073709551616) : AftR P j D.n (worZ P i k v D B j c) := by
  unfold worZ AftR
  by_cases hk : k < 0 ∨ 8 ≤ k
  · rw [if_pos hk]
    exact ⟨fun _ => h, fun q => (by omega), rfl, by show j ≤ j + 1; omega⟩
  · rw [if_neg hk]
    by_cases ho : i < 0 ∨ (P.l : Int) ≤ i
    · rw [if_pos ho]
      exact ⟨fun _ => h, fun q => (by omega), rfl, by show j ≤ j + 1; omega⟩
    · rw [if_neg ho]
      exact h.regZ hP hmb hbb hj (by omega) fun z D B j h0 h1 hm hO => hO.word hP hm h0 h1 (by omega) hv
end
end Go.Proofs.YtdgcninmpcmdcaaGreat

/-
  RingPlays: the two media are the same.
-/
namespace Go.Proofs.YtdgcninmpcmdcaaGreat
open Go.RowKit
set_option linter.unusedVariables false

set_option maxRecDepth 100000 in
set_option maxHeartbeats 8000000 in
theorem media7_any (a : DevA) (r : RefA) (D : DevS) (w : World) (h : DevIs w a D) (hr : RefIs w r D) :
    Calls Tryz.prog 8 #[.pointer (some ⟨a.bd, 0, none⟩), .pointer (some ⟨r.rd, 0, none⟩)] w fun e w' => e = .returned (.bool true) ∧ Gr [] w w' := by
  have hnI : D.n ≤ 8192 := hr.hi
  have hmb := h.ok.medB
  have HD := Lib.hid h
  have HR := Lib.hid hr
  have HMB := Lib.hid hmb
  obtain ⟨n, hn⟩ : ∃ n, n = D.n := ⟨_, rfl⟩
  have c1 := hr.c1
  rw [← hn] at c1 hnI
  have HN := Lib.hid hn
  clear h hr hmb hn
  go_enter Tryz.func8, Tryz.ntmps8
  go_wp2_with fail
  clear c1
  go_loopw [11] (fun u wr => ∃ i : Nat, i ≤ n ∧ u = .int .i64 (i : Int) ∧ Gr [] w wr) (fun u _ => n - (intOf u).toNat)
  case atStart => exact ⟨0, by omega, rfl, Gr.refl _ _⟩
  case round =>
    obtain ⟨i, hi, rfl, g⟩ := hrel
    have HG := Lib.hid g
    have HD2 := Lib.hid (HD.out.gr0 g)
    have HR2 := Lib.hid (HR.out.gr0 g)
    clear g
    by_cases hin : i < n
    · have ij : (i : Int) < (n : Int) := by omega
      have hiD : i < D.n := by rw [← HN.out]; exact hin
      have HMd := Lib.hid (fun W (q : RefIs W r D) => show Calls Tryz.prog 33 #[.pointer (some ⟨r.rd, 0, none⟩), .int .i64 (i : Int)] W fun e w' => e = .returned (.string (medS D i)) ∧ Gr [] W w' from rmedia4_any r D i W q hiD HMB.out)
      have HTk := Lib.hid (fun W (q : DevIs W a D) => took_any a D (i : Int) (medS D i) W q (by rw [medS_size]; unfold maxLen; omega))
      rw [took_med HMB.out hiD] at HTk
      have HWr := Lib.hid (fun W (q : DevIs W a D) => wear_in a D i W q hiD)
      have hcw := HR2.out.wearAt hiD
      have c1 := HR2.out.c1
      rw [← HN.out] at c1
      generalize D.wear i = wv at *
      generalize medS D i = MT at *
      have k0 := kp_cell hcw
      have k1 := kp_cell c1
      have hne := kp_ne wr
      clear hcw c1 hiD
      go_wp2_with fail
      refine wp_region_kp (by kernel_rfl) (by kernel_rfl) ?_
      repeat (go_big_quiet_step ((rename_i x; first
        | exact kp_call x ((HMd.out _ (HR2.out.gr0 (Gr.ofBelow x.h))).mono fun _ _ q => ⟨q.1, q.2.below0⟩)
        | exact kp_call x ((HTk.out _ (HD2.out.kp x.h)).mono fun _ _ q => ⟨q.1, q.2.below0⟩)
        | exact kp_call x ((HWr.out _ (HD2.out.kp x.h)).mono fun _ _ q => ⟨q.1, by rw [← q.2]; exact Below.refl _ _⟩))))
      with_reducible refine wpQuiet_nil ?_
      rintro _ ⟨y, rfl⟩
      have HGy := Lib.hid (HG.out.trans (Gr.ofBelow (cs := []) y.h))
      clear k0 k1 hne
      generalize y.w = w2 at *
      go_wp2_with fail
      go_roundw
      case rel => exact ⟨i + 1, by omega, by go_num, HGy.out⟩
      case measure => simp [intOf]; omega
    · obtain rfl : i = n := by omega
      have ij : ¬ ((i : Int) < (i : Int)) := by omega
      have HCt := Lib.hid (fun W (q : DevIs W a D) => count_any a D W q)
      have HOf := Lib.hid (fun W (q : DevIs W a D) => off_any a D W q)
      have c5 := HR2.out.c5
      have c4 := HR2.out.c4
      generalize D.cnt = ct at *
      generalize D.off = o at *
      have k0 := kp_cell c5
      have k1 := kp_cell c4
      have hne := kp_ne wr
      clear c5 c4
      go_wp2_with fail
      refine wp_region_kp (by kernel_rfl) (by kernel_rfl) ?_
      repeat (go_big_quiet_step ((rename_i x; first
        | exact kp_call x ((HCt.out _ (HD2.out.kp x.h)).mono fun _ _ q => ⟨q.1, by rw [← q.2]; exact Below.refl _ _⟩)
        | exact kp_call x ((HOf.out _ (HD2.out.kp x.h)).mono fun _ _ q => ⟨q.1, by rw [← q.2]; exact Below.refl _ _⟩))))
      with_reducible refine wpQuiet_nil ?_
      rintro _ ⟨y, rfl⟩
      have HGy := Lib.hid (HG.out.trans (Gr.ofBelow (cs := []) y.h))
      clear k0 k1 hne
      generalize y.w = w2 at *
      go_wp2_with fail
      go_ret
      exact ⟨rfl, HGy.out⟩
end Go.Proofs.YtdgcninmpcmdcaaGreat

/-
  RingPlays: where a region's line is; the document's Check and Format.
-/
namespace Go.Proofs.YtdgcninmpcmdcaaGreat
open Go.RowKit
set_option linter.unusedVariables false

section
variable {w w' : World} {kb : Nat} {q : BkA} {a : DevA} {P : PlanR} {B : BkS} {m j c cc : Nat} {D : DevS} {r : RefA}
set_option maxRecDepth 100000 in
set_option maxHeartbeats 8000000 in
theorem rgwhere_any (i : Nat) (hi : i < P.l) (h : RgIs w kb q a P B m j c) :
    Calls Tryz.prog 67 #[.pointer (some ⟨kb, 0, none⟩), .int .i64 (i : Int)] w fun e w' => e = .returned (.tuple #[.int .i64 (placeP (bankR P) B (slotJ P j i)), .int .i64 0]) ∧ Gr [] w w' := by
  have hz : inP (bankR P) (slotJ P j i) := by
    rw [slotJ_N P j i h.ok.l1]
    have := slotN_le (j := j) (i := i) h.ok.l1
    exact inR P (by omega) (by omega)
  have HF := Lib.hid (rfind_in i h hi)
  have HS := Lib.hid (fun W (g : Gr [] w W) => rslot_any i (h.gr0 g) hi)
  have HR := Lib.hid (fun W (g : Gr [] w W) => where_in (slotJ P j i) (h.bk.gr0 g) hz)
  obtain ⟨R, hR⟩ : ∃ R, R = placeP (bankR P) B (slotJ P j i) := ⟨_, rfl⟩
  rw [← hR] at HR ⊢
  have k4 := kp_cell (a := ⟨kb, 4, none⟩) h.c4
  have hne := kp_ne w
  clear h hi hR hz
  generalize slotJ P j i = z at *
  go_enter Tryz.func67, Tryz.ntmps67
  go_wp2_with fail
  refine HF.out.mono ?_
  rintro e w' ⟨rfl, rfl⟩
  go_wp2_with fail
  refine wp_region_kp (by kernel_rfl) (by kernel_rfl) ?_
  repeat (go_big_quiet_step ((rename_i x; first
    | exact kp_call x ((HS.out _ (Gr.ofBelow x.h)).mono fun _ _ q => ⟨q.1, q.2.below0⟩)
    | exact kp_call x ((HR.out _ (Gr.ofBelow x.h)).mono fun _ _ q => ⟨q.1, q.2.below0⟩))))
  with_reducible refine wpQuiet_nil ?_
  rintro _ ⟨y, rfl⟩
  have HG := Lib.hid (Gr.ofBelow (cs := []) y.h)
  clear k4 hne
  generalize y.w = w2 at *
  go_wp2_with fail
  exact bodyPost_ret (v := .tuple #[.int .i64 R, .int .i64 0]) (by simp [results, Tryz.results67, go_sem]) rfl ⟨rfl, HG.out⟩
set_option maxRecDepth 100000 in
set_option maxHeartbeats 8000000 in
theorem rcheck07 (hP : OkR P) (n : Int) (hn : checkZ (bankR P) n = 0) (w : World) : Calls Tryz.prog 72 #[planRV P, .int .i64 n] w fun e w' => e = .returned (.int .i64 0) ∧ Below w.heap.size w w' := by
  have HBk := Lib.hid (fun W => show Calls Tryz.prog 26 #[.agg #[.int .i64 P.a, .int .i64 (P.l : Int), .int .i64 P.s, .int .i64 P.psi]] W _ from rbank07 hP W)
  have HCk := Lib.hid (fun W => show Calls Tryz.prog 113 #[.agg #[.int .i64 P.a, .int .i64 ((P.l : Int) + 2), .int .i64 P.s], .int .i64 n] W _ from rcheck_any (bankR P) n W)
  rw [hn] at HCk
  have HX := Lib.hid (Holds.new w #[.int .i64 P.a, .int .i64 (P.l : Int), .int .i64 P.s, .int .i64 P.psi] 25)
  have HG := Lib.hid ((Gr.refl [] w).alloc (Obj.cells #[.int .i64 P.a, .int .i64 (P.l : Int), .int .i64 P.s, .int .i64 P.psi] 25))
  have i1 : ¬ ((P.l : Int) < 1) := by have := hP.l1; omega
  have i2 : ¬ (1024 < (P.l : Int)) := by have := hP.l2; omega
  have i3 : ¬ (P.psi < 1) := by have := hP.p1; omega
  have i4 : ¬ (65535 < P.psi) := by have := hP.p2; omega
  clear hP hn
  unfold planV bankR at HBk
  simp only at HBk
  unfold planRV
  go_enter Tryz.func72, Tryz.ntmps72
  go_upto_region 1 with fail
  generalize (w.alloc (Obj.cells #[.int .i64 P.a, .int .i64 (P.l : Int), .int .i64 P.s, .int .i64 P.psi] 25)) = w1 at *
  obtain ⟨pb, hpb⟩ : ∃ pb, w.heap.size = pb := ⟨_, rfl⟩
  have HPW := Lib.hid hpb
  rw [hpb] at HX ⊢
  clear hpb
  have c0 := HX.out.cell 0
  have c1 := HX.out.cell 1
  have c2 := HX.out.cell 2
  have c3 := HX.out.cell 3
  go_wp2_with fail
  refine (HBk.out _).mono ?_
  rintro e w2 ⟨rfl, g2⟩
  have HG2 := Lib.hid (HG.out.trans g2)
  clear g2 c0 c1 c2 c3
  go_upto_region 4 with fail
  have hb := Holds.new w2 #[.int .i64 P.a, .int .i64 ((P.l : Int) + 2), .int .i64 P.s] 74
  have ga := (Gr.refl [] w2).alloc (Obj.cells #[.int .i64 P.a, .int .i64 ((P.l : Int) + 2), .int .i64 P.s] 74)
  have HX3 := Lib.hid (And.intro (HG2.out.trans ga) hb)
  clear hb ga
  generalize (w2.alloc (Obj.cells #[.int .i64 P.a, .int .i64 ((P.l : Int) + 2), .int .i64 P.s] 74)) = w3 at *
  obtain ⟨bb, hbb⟩ : ∃ bb, w2.heap.size = bb := ⟨_, rfl⟩
  rw [hbb] at HX3 ⊢
  clear hbb
  have b0 := HX3.out.2.cell 0
  have b1 := HX3.out.2.cell 1
  have b2 := HX3.out.2.cell 2
  go_wp2_with fail
  refine (HCk.out _).mono ?_
  rintro e w4 ⟨rfl, g4⟩
  have HG4 := Lib.hid (HX3.out.1.nextB g4)
  clear g4
  go_wp2_with fail
  go_ret
  exact ⟨rfl, HG4.out.below0⟩
set_option maxRecDepth 100000 in
set_option maxHeartbeats 8000000 in
theorem rformat07 (hP : OkR P) {n L : Nat} {E : DevS} (h : RefIs w r (newD n)) (hfit : (bankR P).a + sizeZ (bankR P) ≤ (n : Int)) (hL : L = (tabZ (bankR P) + (bankR P).l).toNat) (hE : writeWordS (bankR P) ((P.l : Int) + 1) 0 (pkN P 0) (fmtD (bankR P) L (newD n)) B0 = (0, E, B0)) :
    Calls Tryz.prog 28 #[.pointer (some ⟨r.rd, 0, none⟩), planRV P] w fun e w' => e = .returned (.int .i64 0) ∧ RefIs w' r E ∧ Gr r.all w w' := by
  obtain ⟨q1, q2, q3, q4, q5, q6⟩ := rg_nums hP
  have ha : (bankR P).a = P.a := rfl
  have hbl : (bankR P).l = (P.l : Int) + 2 := rfl
  have hpl2 := hP.l2
  have hck : checkZ (bankR P) (n : Int) = 0 := by
    unfold checkZ
    rw [if_pos hP.ok, if_neg (by omega)]
  obtain ⟨z1, n1, b1⟩ := fmt_zero (p := bankR P) (zero_new n) q1 L (by show P.a + (L : Int) ≤ (n : Int); omega)
  have hti := TI.zero hP.ok z1 (by rw [n1]; exact hfit) (by rw [b1]; rfl)
  have hbd := fmt_bds (p := bankR P) (new_bd n)
  have hfu : Fu (fmtD (bankR P) L (newD n)) (0 + 10 * L) := Fu.zero z1 (hbd L)
  have ht8 : tabZ (bankR P) ≤ 8 := by show (P.s + 7) / 8 ≤ 8; omega
  have hLb : L ≤ 1040 := by omega
  have HFm := Lib.hid (fun W (q : RefIs W r (newD n)) => show Calls Tryz.prog 73 #[.pointer (some ⟨r.rd, 0, none⟩), .agg #[.int .i64 P.a, .int .i64 ((P.l : Int) + 2), .int .i64 P.s]] W _ from rformat_ok (p := bankR P) (c := 0) q (zero_new n) (fun j _ => hbd j) (by omega) hck)
  rw [← hL] at HFm
  obtain ⟨p1, p2⟩ := pkN_val hP 0 (by omega)
  obtain ⟨s0, g0⟩ := pkN_zero hP
  rw [s0, g0] at p1
  have HWw := Lib.hid (fun W (q : RefIs W r (fmtD (bankR P) L (newD n))) => show Calls Tryz.prog 45 #[.pointer (some ⟨r.rd, 0, none⟩), .agg #[.int .i64 P.a, .int .i64 ((P.l : Int) + 2), .int .i64 P.s], .int .i64 ((P.l : Int) + 1), .int .i64 0, .int .u64 (pkI 0 (P.l : Int) 0)] W (RWPost W r (0 + 10 * L) (0, E, B0)) by
    rw [← hE, show pkI 0 (P.l : Int) 0 = ((pkN P 0 : Nat) : Int) from p1.symm]
    exact rww_any (p := bankR P) ((P.l : Int) + 1) 0 (pkN P 0) q ⟨z1.calm.off, z1.calm.buf⟩ (hti.congr hP.ok (bare_calm _) rfl rfl rfl) (fun x => by rw [z1.med x]; omega) hfu (by omega) hP.ok p2)
  have HPk := Lib.hid (fun W => rpack_any 0 (P.l : Int) 0 W (by omega))
  have HBk := Lib.hid (fun W => show Calls Tryz.prog 26 #[.agg #[.int .i64 P.a, .int .i64 (P.l : Int), .int .i64 P.s, .int .i64 P.psi]] W _ from rbank07 hP W)
  have HCk := Lib.hid (fun W => show Calls Tryz.prog 72 #[.agg #[.int .i64 P.a, .int .i64 (P.l : Int), .int .i64 P.s, .int .i64 P.psi], .int .i64 (n : Int)] W _ from rcheck07 hP (n : Int) hck W)
  have HH := Lib.hid h
  have HX := Lib.hid (Holds.new w #[.int .i64 P.a, .int .i64 (P.l : Int), .int .i64 P.s, .int .i64 P.psi] 25)
  have HG := Lib.hid ((Gr.refl [] w).alloc (Obj.cells #[.int .i64 P.a, .int .i64 (P.l : Int), .int .i64 P.s, .int .i64 P.psi] 25))
  have HPB := Lib.hid (show w.heap.size ∉ r.all from fun e => by have := h.lt _ e; omega)
  have hw1 : IntKind.i64.wrap ((P.l : Int) + 1) = (P.l : Int) + 1 := IntWalk.i64_in _ (by omega)
  have hwr : (newD n).n = n := rfl
  have HNI := Lib.hid hwr
  obtain ⟨F, hF⟩ : ∃ F, fmtD (bankR P) L (newD n) = F := ⟨_, rfl⟩
  rw [hF] at HFm HWw
  obtain ⟨pk, hpk⟩ : ∃ p : Int, pkI 0 (P.l : Int) 0 = p := ⟨_, rfl⟩
  rw [hpk] at HWw HPk
  clear ht8 q1 q2 q3 q4 q5 q6 ha hbl hck z1 n1 b1 hti hbd hfu hLb p1 p2 s0 g0 h hfit hL hE hwr hF hpk hP hpl2
  unfold planV bankR at HBk
  simp only at HBk
  unfold planRV
  go_enter Tryz.func28, Tryz.ntmps28
  go_upto_region 1 with fail
  generalize (w.alloc (Obj.cells #[.int .i64 P.a, .int .i64 (P.l : Int), .int .i64 P.s, .int .i64 P.psi] 25)) = w1 at *
  obtain ⟨pb, hpb⟩ : ∃ pb, w.heap.size = pb := ⟨_, rfl⟩
  rw [hpb] at HX HPB ⊢
  clear hpb
  have H1 := Lib.hid (HH.out.gr0 HG.out)
  have k0 := kp_cell (a := ⟨pb, 0, none⟩) (show w1.cell? ⟨pb, 0, none⟩ = some (.int .i64 P.a) from HX.out.cell 0)
  have k1 := kp_cell (a := ⟨pb, 1, none⟩) (show w1.cell? ⟨pb, 1, none⟩ = some (.int .i64 (P.l : Int)) from HX.out.cell 1)
  have k2 := kp_cell (a := ⟨pb, 2, none⟩) (show w1.cell? ⟨pb, 2, none⟩ = some (.int .i64 P.s) from HX.out.cell 2)
  have k3 := kp_cell (a := ⟨pb, 3, none⟩) (show w1.cell? ⟨pb, 3, none⟩ = some (.int .i64 P.psi) from HX.out.cell 3)
  have k5 := kp_cell (a := ⟨r.rd, 1, none⟩) H1.out.c1
  have hne := kp_ne w1
  refine wp_region_kp (by kernel_rfl) (by kernel_rfl) ?_
  repeat (go_big_quiet_step ((rename_i x; exact kp_call x (HCk.out _))))
  with_reducible refine wpQuiet_nil ?_
  rintro _ ⟨y, rfl⟩
  have gy : Gr [] w1 y.w := Gr.ofBelow (cs := []) y.h
  have H2 := Lib.hid (And.intro (H1.out.gr0 gy) (And.intro (HX.out.gr0 gy) (HG.out.trans gy)))
  clear k0 k1 k2 k3 k5 hne gy H1 HX HG HCk
  generalize y.w = w2 at *
  clear y
  have c0 := H2.out.2.1.cell 0
  have c1 := H2.out.2.1.cell 1
  have c2 := H2.out.2.1.cell 2
  have c3 := H2.out.2.1.cell 3
  go_wp2_with fail
  refine (HBk.out _).mono ?_
  rintro e w3 ⟨rfl, g3⟩
  have H3 := Lib.hid (And.intro (H2.out.1.gr0 g3) (And.intro (H2.out.2.1.gr0 g3) (H2.out.2.2.trans g3)))
  clear g3 c0 c1 c2 c3 H2 HBk
  go_upto_region 5 with fail
  have hb := Holds.new w3 #[.int .i64 P.a, .int .i64 ((P.l : Int) + 2), .int .i64 P.s] 74
  have ga := (Gr.refl [] w3).alloc (Obj.cells #[.int .i64 P.a, .int .i64 ((P.l : Int) + 2), .int .i64 P.s] 74)
  have H4 := Lib.hid (And.intro (H3.out.1.gr0 ga) (And.intro (H3.out.2.1.gr0 ga) (And.intro (H3.out.2.2.trans ga) hb)))
  have HBB := Lib.hid (show w3.heap.size ∉ r.all from fun e => by have := H3.out.1.lt _ e; omega)
  clear hb ga H3
  generalize (w3.alloc (Obj.cells #[.int .i64 P.a, .int .i64 ((P.l : Int) + 2), .int .i64 P.s] 74)) = w4 at *
  obtain ⟨bb, hbb⟩ : ∃ bb, w3.heap.size = bb := ⟨_, rfl⟩
  rw [hbb] at H4 HBB ⊢
  clear hbb
  have b0 := H4.out.2.2.2.cell 0
  have b1 := H4.out.2.2.2.cell 1
  have b2 := H4.out.2.2.2.cell 2
  go_wp2_with fail
  refine (HFm.out _ H4.out.1).mono ?_
  rintro e w5 ⟨rfl, r5, g5⟩
  have H5 := Lib.hid (And.intro r5 (And.intro (H4.out.2.1.gr g5 HPB.out) (And.intro ((H4.out.2.2.1.of0 (cs := r.all)).trans g5) (H4.out.2.2.2.gr g5 HBB.out))))
  clear r5 g5 b0 b1 b2 H4 HFm
  have c1 := H5.out.2.1.cell 1
  go_wp2_with fail
  refine (HPk.out _).mono ?_
  rintro e w6 ⟨rfl, rfl⟩
  have b0 := H5.out.2.2.2.cell 0
  have b1 := H5.out.2.2.2.cell 1
  have b2 := H5.out.2.2.2.cell 2
  go_wp2_with fail
  refine (HWw.out _ H5.out.1).mono ?_
  rintro e w7 ⟨rfl, r7, f7, g7⟩
  have H7 := Lib.hid (And.intro r7 (H5.out.2.2.1.trans g7))
  clear r7 f7 g7 b0 b1 b2 c1 H5
  go_wp2_with fail
  go_ret
  exact ⟨rfl, H7.out.1, H7.out.2⟩
end
end Go.Proofs.YtdgcninmpcmdcaaGreat

/-
  RingPlays: both sides begun; what both read.
-/
namespace Go.Proofs.YtdgcninmpcmdcaaGreat
open Go.RowKit
set_option linter.unusedVariables false

theorem rg_begin2 {P : PlanR} (hP : OkR P) (n L : Nat) (hL : L = (tabZ (bankR P) + (bankR P).l).toNat) (hfit : (bankR P).a + sizeZ (bankR P) ≤ (n : Int)) :
    ∃ E, GdR P E 0 ∧ E.n = n ∧ writeWordS (bankR P) ((P.l : Int) + 1) 0 (pkN P 0) (fmtD (bankR P) L (newD n)) B0 = (0, E, B0) ∧
      (∀ (w : World) (a : DevA), DevIs w a (newD n) → Calls Tryz.prog 23 #[.pointer (some ⟨a.bd, 0, none⟩), planRV P] w fun e w' => e = .returned (.int .i64 0) ∧ DevIs w' a E ∧ Bd E 12000 ∧ Gr a.all w w') ∧
      (∀ (w : World) (a : DevA), DevIs w a E → Calls Tryz.prog 20 #[.pointer (some ⟨a.bd, 0, none⟩), planRV P] w fun e w' => ∃ (kb : Nat) (q : BkA), e = .returned (.tuple #[.pointer (some ⟨kb, 0, none⟩), .int .i64 0]) ∧ RgIs w' kb q a P B0 64 0 0 ∧ (∀ x ∈ kb :: q.all, w.heap.size ≤ x) ∧ Gr [] w w') := by
  obtain ⟨q1, q2, q3, q4, q5, q6⟩ := rg_nums hP
  have ha : (bankR P).a = P.a := rfl
  have hbl : (bankR P).l = (P.l : Int) + 2 := rfl
  obtain ⟨z1, n1, b1⟩ := fmt_zero (p := bankR P) (zero_new n) q1 L (by show P.a + (L : Int) ≤ (n : Int); omega)
  obtain ⟨F, hF⟩ : ∃ F, F = fmtD (bankR P) L (newD n) := ⟨_, rfl⟩
  rw [← hF] at z1 n1 b1
  have n2 : F.n = n := n1
  obtain ⟨E, f1, f2, f3, f4⟩ := gd_fresh hP z1 (by rw [b1]; rfl) (by rw [n2]; exact hfit)
  refine ⟨E, f2, f3.trans n2, by rw [← hF]; exact f1, fun w a d => ?_, fun w a d => ?_⟩
  · exact rgformat_ok (P := P) (D1 := E) (B1 := B0) (cc := 0) hP d (zero_new n) rfl ⟨Nat.le_refl _, fun l => ⟨Int.le_refl _, Int.le_refl _⟩⟩ (by omega) (by
      unfold checkZ
      rw [if_pos hP.ok, if_neg (by show ¬ ((n : Int) < _); omega)]) (by rw [← hL, ← hF]; exact f1)
  · exact rgopen_ok (P := P) (j := 0) hP d f2.calm.off (gd_check hP f2) (gd_opens hP f2) (gd_reads hP f2 (by omega) (by omega)) (by rw [line_words f2.calm f2.mb 0 (by omega), Nat.add_zero]; exact f2.reg) (by rw [line_size]; unfold maxLen; omega) (by omega)
section
variable {w w' : World} {kb : Nat} {q : BkA} {a : DevA} {P : PlanR} {B : BkS} {m j c cc rq : Nat} {D : DevS} {r : RefA}
theorem OnR.readZ (hP : OkR P) (h : OnR P D B j) (i : Nat) : (readR D (bankR P) B (slotJ P j i)).2 = 0 := by
  have hz : inP (bankR P) (slotJ P j i) := by
    rw [slotJ_N P j i hP.l1]
    have := slotN_le (j := j) (i := i) hP.l1
    exact inR P (by omega) (by omega)
  unfold readR
  rw [if_pos hz, h.live.off]
  rfl
set_option maxRecDepth 100000 in
set_option maxHeartbeats 8000000 in
theorem reads07 (hP : OkR P) (hd : DevIs w a D) (h : RefIs w r D) (hg : RgIs w kb q a P B m j c) (hq : Holds w rq (rqRow P c) 34) (hO : OnR P D B j) (hj : j < 4294967295) (hc9 : c ≤ 65536) :
    Calls Tryz.prog 21 #[.pointer (some ⟨kb, 0, none⟩), .pointer (some ⟨r.rd, 0, none⟩), .pointer (some ⟨rq, 0, none⟩)] w fun e w' => e = .returned (.bool true) ∧ Gr [] w w' := by
  have hmb := hd.ok.medB
  have hfit : (bankR P).a + sizeZ (bankR P) ≤ (D.n : Int) := hO.ti.fits
  have HSt := Lib.hid (fun W (q : RefIs W r D) => show Calls Tryz.prog 42 #[.pointer (some ⟨r.rd, 0, none⟩), .agg #[.int .i64 P.a, .int .i64 (P.l : Int), .int .i64 P.s, .int .i64 P.psi]] W _ from rstate07 hP q hO hmb (by omega))
  have HPS := Lib.hid (fun W (g : Gr [] w W) => show Calls Tryz.prog 29 #[.pointer (some ⟨kb, 0, none⟩)] W fun e w' => e = .returned (.agg #[.int .i64 (sAt P.l j), .int .i64 (gAt P.l j), .int .u32 (j : Int)]) ∧ Gr [] W w' from rstate_any (hg.gr0 g))
  have HPC := Lib.hid (fun W (g : Gr [] w W) => rsince_any (hg.gr0 g))
  have HRR := Lib.hid (fun (i : Nat) (hi : i < P.l) W (g : Gr [] w W) => rgread_any i hi (hg.gr0 g) (hd.gr0 g) hfit)
  have HRF := Lib.hid (fun (i : Nat) (hi : i < P.l) W (g : Gr [] w W) => show Calls Tryz.prog 14 #[.pointer (some ⟨r.rd, 0, none⟩), .agg #[.int .i64 P.a, .int .i64 (P.l : Int), .int .i64 P.s, .int .i64 P.psi], .int .i64 (i : Int)] W _ from rread07_in hP (h.gr0 g) hO hmb (by omega) i hi)
  have HWR := Lib.hid (fun (i : Nat) (hi : i < P.l) W (g : Gr [] w W) => rgwhere_any i hi (hg.gr0 g))
  have HWF := Lib.hid (fun (i : Nat) (hi : i < P.l) W (g : Gr [] w W) => show Calls Tryz.prog 51 #[.pointer (some ⟨r.rd, 0, none⟩), .agg #[.int .i64 P.a, .int .i64 (P.l : Int), .int .i64 P.s, .int .i64 P.psi], .int .i64 (i : Int)] W _ from rwhere07 hP (h.gr0 g) hO hmb (by omega) i hi)
  have HZ := Lib.hid (fun i => hO.readZ hP i)
  have HQ := Lib.hid (show ∀ W, Gr [] w W → W.cell? ⟨rq, 0, none⟩ = some (.int .i64 P.a) ∧ W.cell? ⟨rq, 1, none⟩ = some (.int .i64 (P.l : Int)) ∧ W.cell? ⟨rq, 2, none⟩ = some (.int .i64 P.s) ∧ W.cell? ⟨rq, 3, none⟩ = some (.int .i64 P.psi) ∧ W.cell? ⟨rq, 4, none⟩ = some (.int .i64 (c : Int)) from fun W g => ⟨(hq.gr0 g).cell 0, (hq.gr0 g).cell 1, (hq.gr0 g).cell 2, (hq.gr0 g).cell 3, (hq.gr0 g).cell 4⟩)
  have HH := Lib.hid h
  have hpl : P.l ≤ 1024 := hP.l2
  have hjw : (j : Int) % 4294967296 = (j : Int) := by omega
  obtain ⟨S, hS⟩ : ∃ S : Int, sAt P.l j = S := ⟨_, rfl⟩
  obtain ⟨Gg, hGg⟩ : ∃ G : Int, gAt P.l j = G := ⟨_, rfl⟩
  rw [hS, hGg] at HSt HPS
  clear hmb hfit hd h hg hq hO hj hc9 hS hGg hP
  obtain ⟨q0, q1, q2, q3, q4⟩ := HQ.out _ (Gr.refl [] w)
  go_enter Tryz.func21, Tryz.ntmps21
  go_wp2_with fail
  refine (HSt.out _ HH.out).mono ?_
  rintro e w1 ⟨rfl, g1⟩
  have HG1 := Lib.hid g1
  clear g1 q0 q1 q2 q3 q4
  obtain ⟨q0, q1, q2, q3, q4⟩ := HQ.out _ HG1.out
  go_upto_region 2 with fail
  have k4 := kp_cell q4
  have hne := kp_ne w1
  refine wp_region_kp (by kernel_rfl) (by kernel_rfl) ?_
  repeat (go_big_quiet_step ((rename_i x; first
    | exact kp_call x ((HPS.out _ (HG1.out.trans (Gr.ofBelow x.h))).mono fun _ _ q => ⟨q.1, q.2.below0⟩)
    | exact kp_call x ((HPC.out _ (HG1.out.trans (Gr.ofBelow x.h))).mono fun _ _ q => ⟨q.1, by rw [q.2]; exact Below.refl _ _⟩))))
  with_reducible refine wpQuiet_nil ?_
  rintro _ ⟨y, rfl⟩
  have HG2 := Lib.hid (HG1.out.trans (Gr.ofBelow (cs := []) y.h))
  clear k4 hne q0 q1 q2 q3 q4 HG1 HSt HPS HPC hjw
  generalize y.w = w2 at *
  clear y
  obtain ⟨q0, q1, q2, q3, q4⟩ := HQ.out _ HG2.out
  go_wp2_with fail
  clear q0 q1 q2 q3 q4
  go_loopw [57] (fun z wr => ∃ k : Nat, k ≤ P.l ∧ z = .int .i64 (k : Int) ∧ Gr [] w wr) (fun z _ => P.l - (intOf z).toNat)
  case atStart => exact ⟨0, by omega, rfl, HG2.out⟩
  case round =>
    clear HG2
    obtain ⟨k, hk, rfl, g⟩ := hrel
    have HG2 := Lib.hid g
    clear g
    by_cases hkl : k < P.l
    · have ik : (k : Int) < (P.l : Int) := by omega
      have hw : IntKind.i64.wrap ((k : Int) + 1) = (k : Int) + 1 := IntWalk.i64_in _ (by omega)
      have hr1 := HRR.out k hkl
      rw [HZ.out k] at hr1
      have hr2 := HRF.out k hkl
      have hr3 := HWR.out k hkl
      have hr4 := HWF.out k hkl
      obtain ⟨T, hT⟩ : ∃ T, (readR D (bankR P) B (slotJ P j k)).1 = T := ⟨_, rfl⟩
      obtain ⟨Y, hY⟩ : ∃ Y, placeP (bankR P) B (slotJ P j k) = Y := ⟨_, rfl⟩
      rw [hT] at hr1 hr2
      rw [hY] at hr3 hr4
      have H1 := Lib.hid hr1
      have H2 := Lib.hid hr2
      have H3 := Lib.hid hr3
      have H4 := Lib.hid hr4
      have HKL := Lib.hid hkl
      clear hr1 hr2 hr3 hr4 hT hY hkl
      go_wp2_with fail
      refine (H1.out _ HG2.out).mono ?_
      rintro e w3 ⟨rfl, g3⟩
      have HG3 := Lib.hid (HG2.out.trans g3)
      clear g3 HG2
      obtain ⟨q0, q1, q2, q3, q4⟩ := HQ.out _ HG3.out
      go_wp2_with fail
      refine (H2.out _ HG3.out).mono ?_
      rintro e w4 ⟨rfl, g4⟩
      have HG4 := Lib.hid (HG3.out.trans g4)
      clear g4 HG3 q0 q1 q2 q3 q4
      go_wp2_with fail
      refine (H3.out _ HG4.out).mono ?_
      rintro e w5 ⟨rfl, g5⟩
      have HG5 := Lib.hid (HG4.out.trans g5)
      clear g5 HG4
      obtain ⟨q0, q1, q2, q3, q4⟩ := HQ.out _ HG5.out
      go_wp2_with fail
      refine (H4.out _ HG5.out).mono ?_
      rintro e w6 ⟨rfl, g6⟩
      have HG6 := Lib.hid (HG5.out.trans g6)
      clear g6 HG5 q0 q1 q2 q3 q4
      go_wp2_with fail
      go_roundw
      case rel => exact ⟨k + 1, HKL.out, by go_num, HG6.out⟩
      case measure => have := HKL.out; simp [intOf]; omega
    · obtain rfl : k = P.l := by omega
      have ik : ¬ ((P.l : Int) < (P.l : Int)) := by omega
      go_wp2_with fail
      go_ret
      exact ⟨rfl, HG2.out⟩
end
end Go.Proofs.YtdgcninmpcmdcaaGreat

/-
  RingPlays: both sides begun.
-/
namespace Go.Proofs.YtdgcninmpcmdcaaGreat
open Go.RowKit
set_option linter.unusedVariables false

/-- What pair leaves. -/
structure Pr7 (w : World) (P : PlanR) (a : DevA) (kb : Nat) (q : BkA) (r : RefA) (E : DevS) (wr : World) : Prop where
  dev : DevIs wr a E
  bd : Bd E 12000
  ref : RefIs wr r E
  gd : GdR P E 0
  rg : RgIs wr kb q a P B0 64 0 0
  na : ∀ x ∈ a.all, w.heap.size ≤ x
  nr : ∀ x ∈ r.all, w.heap.size ≤ x
  ar : ∀ x ∈ a.all, x ∉ r.all
  nq : ∀ x ∈ kb :: q.all, w.heap.size ≤ x ∧ x ∉ r.all
  gr : Gr [] w wr
set_option maxRecDepth 100000 in
set_option maxHeartbeats 16000000 in
theorem pair07 {P : PlanR} (hP : OkR P) (ha : P.a ≤ 100) (w : World) :
    Calls Tryz.prog 6 #[planRV P] w fun e w' => ∃ (a : DevA) (kb : Nat) (q : BkA) (r : RefA) (E : DevS), e = .returned (.tuple #[.pointer (some ⟨a.bd, 0, none⟩), .pointer (some ⟨kb, 0, none⟩), .pointer (some ⟨r.rd, 0, none⟩), .bool true]) ∧ Pr7 w P a kb q r E w' := by
  obtain ⟨q1, q2, q3, q4, q5, q6⟩ := rg_nums hP
  have hpl2 := hP.l2
  have ht8 : tabZ (bankR P) ≤ 8 := by show (P.s + 7) / 8 ≤ 8; omega
  obtain ⟨n, hn⟩ : ∃ n : Nat, sizeZ (bankR P) + P.a + 1 = (n : Int) := ⟨(sizeZ (bankR P) + P.a + 1).toNat, by omega⟩
  have HN1 := Lib.hid (show 1 ≤ n ∧ n ≤ 8192 by omega)
  have hab : (bankR P).a = P.a := rfl
  have hfit : (bankR P).a + sizeZ (bankR P) ≤ (n : Int) := by omega
  obtain ⟨E, e1, e2, e3, e4, e5⟩ := rg_begin2 hP n _ rfl hfit
  have HGd := Lib.hid e1
  have HFm := Lib.hid (fun (W : World) (a : DevA) (q1 : DevIs W a (newD n)) => show Calls Tryz.prog 23 #[.pointer (some ⟨a.bd, 0, none⟩), .agg #[.int .i64 P.a, .int .i64 (P.l : Int), .int .i64 P.s, .int .i64 P.psi]] W _ from e4 W a q1)
  have HOp := Lib.hid (fun (W : World) (a : DevA) (q1 : DevIs W a E) => show Calls Tryz.prog 20 #[.pointer (some ⟨a.bd, 0, none⟩), .agg #[.int .i64 P.a, .int .i64 (P.l : Int), .int .i64 P.s, .int .i64 P.psi]] W _ from e5 W a q1)
  have HRF := Lib.hid (fun (W : World) (r : RefA) (q1 : RefIs W r (newD n)) => show Calls Tryz.prog 28 #[.pointer (some ⟨r.rd, 0, none⟩), .agg #[.int .i64 P.a, .int .i64 (P.l : Int), .int .i64 P.s, .int .i64 P.psi]] W _ from rformat07 hP q1 hfit rfl e3)
  have HBk := Lib.hid (fun W => show Calls Tryz.prog 26 #[.agg #[.int .i64 P.a, .int .i64 (P.l : Int), .int .i64 P.s, .int .i64 P.psi]] W _ from rbank07 hP W)
  have HS := Lib.hid (fun W => show Calls Tryz.prog 25 #[.agg #[.int .i64 P.a, .int .i64 ((P.l : Int) + 2), .int .i64 P.s]] W _ from rsize_any (bankR P) hP.ok W)
  obtain ⟨z, hz⟩ : ∃ z, z = sizeZ (bankR P) := ⟨_, rfl⟩
  rw [← hz] at HS hn
  have i1 : IntKind.i64.wrap (z + P.a) = z + P.a := IntWalk.i64_in _ (by omega)
  have i2 : IntKind.i64.wrap (z + P.a + 1) = z + P.a + 1 := IntWalk.i64_in _ (by omega)
  have HN := Lib.hid hn
  have HX := Lib.hid (Holds.new w #[.int .i64 P.a, .int .i64 (P.l : Int), .int .i64 P.s, .int .i64 P.psi] 25)
  have HG := Lib.hid ((Gr.refl [] w).alloc (Obj.cells #[.int .i64 P.a, .int .i64 (P.l : Int), .int .i64 P.s, .int .i64 P.psi] 25))
  unfold planV bankR at HBk
  simp only at HBk
  clear hP q1 q2 q3 q4 q5 q6 hpl2 ht8 hn hab hfit e1 e2 e3 e4 e5 hz ha
  unfold planRV
  go_enter Tryz.func6, Tryz.ntmps6
  go_upto_region 1 with fail
  generalize (w.alloc (Obj.cells #[.int .i64 P.a, .int .i64 (P.l : Int), .int .i64 P.s, .int .i64 P.psi] 25)) = w1 at *
  obtain ⟨pb, hpb⟩ : ∃ pb, w.heap.size = pb := ⟨_, rfl⟩
  have HWP := Lib.hid hpb
  rw [hpb] at HX ⊢
  clear hpb
  have k0 := kp_cell (a := ⟨pb, 0, none⟩) (show w1.cell? ⟨pb, 0, none⟩ = some (.int .i64 P.a) from HX.out.cell 0)
  have k1 := kp_cell (a := ⟨pb, 1, none⟩) (show w1.cell? ⟨pb, 1, none⟩ = some (.int .i64 (P.l : Int)) from HX.out.cell 1)
  have k2 := kp_cell (a := ⟨pb, 2, none⟩) (show w1.cell? ⟨pb, 2, none⟩ = some (.int .i64 P.s) from HX.out.cell 2)
  have k3 := kp_cell (a := ⟨pb, 3, none⟩) (show w1.cell? ⟨pb, 3, none⟩ = some (.int .i64 P.psi) from HX.out.cell 3)
  have hne := kp_ne w1
  refine wp_region_kp (by kernel_rfl) (by kernel_rfl) ?_
  repeat (go_big_quiet_step ((rename_i x; first
    | with_reducible exact kp_call x (HS.out _)
    | exact kp_call x ((HBk.out _).mono fun _ _ q => ⟨q.1, q.2.below0⟩))))
  with_reducible refine wpQuiet_nil ?_
  rintro _ ⟨y, rfl⟩
  have gy : Gr [] w1 y.w := Gr.ofBelow (cs := []) y.h
  have H2 := Lib.hid (And.intro (HX.out.gr0 gy) (HG.out.trans gy))
  clear k0 k1 k2 k3 hne gy HX HG HBk HS
  generalize y.w = w2 at *
  clear y
  rw [HN.out]
  clear i1 i2
  go_wp2_with fail
  refine (pmnew_yes n _ HN1.out.1 HN1.out.2).mono ?_
  rintro e w3 ⟨a, rfl, d3, hlo, g3⟩
  have HLO := Lib.hid (show ∀ x ∈ a.all, w.heap.size ≤ x from fun x hx => Nat.le_trans H2.out.2.size (hlo x hx))
  have HNP := Lib.hid (show pb ∉ a.all from fun q => by have := hlo _ q; have := H2.out.1.lt; omega)
  have H3 := Lib.hid (And.intro d3 (And.intro (H2.out.1.gr0 g3) (H2.out.2.trans g3)))
  clear d3 g3 hlo H2
  go_wp2_with fail
  refine (rnew_any n _ HN1.out.1 HN1.out.2).mono ?_
  rintro e w4 ⟨r, rfl, r4, hro, g4⟩
  have HRO := Lib.hid (show ∀ x ∈ r.all, w.heap.size ≤ x from fun x hx => Nat.le_trans H3.out.2.2.size (hro x hx))
  have HNR := Lib.hid (show pb ∉ r.all from fun q => by have := hro _ q; have := H3.out.2.1.lt; omega)
  have HAR := Lib.hid (show ∀ x ∈ a.all, x ∉ r.all from fun x hx hr => by have := H3.out.1.lt x hx; have := hro x hr; omega)
  have R4 : RefIs w4 r (newD n) := ⟨_, r4, Says.new n⟩
  have H4 := Lib.hid (And.intro (H3.out.1.gr0 g4) (And.intro (H3.out.2.1.gr0 g4) (And.intro (H3.out.2.2.trans g4) R4)))
  clear r4 hro g4 R4 H3
  have c0 := H4.out.2.1.cell 0
  have c1 := H4.out.2.1.cell 1
  have c2 := H4.out.2.1.cell 2
  have c3 := H4.out.2.1.cell 3
  go_wp2_with fail
  refine (HFm.out _ a H4.out.1).mono ?_
  rintro e w5 ⟨rfl, d5, b5, g5⟩
  have H5 := Lib.hid (And.intro d5 (And.intro (H4.out.2.1.gr g5 HNP.out) (And.intro (H4.out.2.2.1.nextN g5 fun x hx => .inr (HLO.out x hx)) (And.intro (H4.out.2.2.2.gr g5 fun x hx hy => HAR.out x hy hx) b5))))
  clear d5 b5 g5 c0 c1 c2 c3 H4 HFm
  have c0 := H5.out.2.1.cell 0
  have c1 := H5.out.2.1.cell 1
  have c2 := H5.out.2.1.cell 2
  have c3 := H5.out.2.1.cell 3
  go_wp2_with fail
  refine (HRF.out _ r H5.out.2.2.2.1).mono ?_
  rintro e w6 ⟨rfl, r6, g6⟩
  have H6 := Lib.hid (And.intro (H5.out.1.gr g6 HAR.out) (And.intro (H5.out.2.1.gr g6 HNR.out) (And.intro (H5.out.2.2.1.nextN g6 fun x hx => .inr (HRO.out x hx)) (And.intro r6 H5.out.2.2.2.2))))
  clear r6 g6 c0 c1 c2 c3 H5 HRF
  have c0 := H6.out.2.1.cell 0
  have c1 := H6.out.2.1.cell 1
  have c2 := H6.out.2.1.cell 2
  have c3 := H6.out.2.1.cell 3
  go_wp2_with fail
  refine (HOp.out _ a H6.out.1).mono ?_
  rintro e w7 ⟨kb, q, rfl, r7, hnew, g7⟩
  have H7 := Lib.hid (show Pr7 w P a kb q r E w7 from ⟨H6.out.1.gr0 g7, H6.out.2.2.2.2, H6.out.2.2.2.1.gr0 g7, HGd.out, r7, HLO.out, HRO.out, HAR.out, fun x hx => ⟨Nat.le_trans H6.out.2.2.1.size (hnew x hx), fun hr => by have := H6.out.2.2.2.1.lt x hr; have := hnew x hx; omega⟩, H6.out.2.2.1.trans g7⟩)
  clear r7 hnew g7 c0 c1 c2 c3 H6 HOp
  go_wp2_with fail
  exact bodyPost_ret (v := .tuple #[.pointer (some ⟨a.bd, 0, none⟩), .pointer (some ⟨kb, 0, none⟩), .pointer (some ⟨r.rd, 0, none⟩), .bool true]) (by simp [results, Tryz.results6, go_sem]) rfl ⟨a, kb, q, r, E, rfl, H7.out⟩
end Go.Proofs.YtdgcninmpcmdcaaGreat

/-
  RingPlays: the state between two acts.
-/
namespace Go.Proofs.YtdgcninmpcmdcaaGreat
open Go.RowKit
set_option linter.unusedVariables false

/-- The blocks lie apart. -/
structure RPF (w : World) (a : DevA) (r : RefA) (pb : Nat) : Prop where
  ar : ∀ x ∈ a.all, x ∉ r.all
  pa : pb ∉ a.all
  pr : pb ∉ r.all
  la : ∀ x ∈ a.all, w.heap.size ≤ x
  lr : ∀ x ∈ r.all, w.heap.size ≤ x
/-- The devices. -/
structure RPD (w wr : World) (a : DevA) (r : RefA) (P : PlanR) (pb : Nat) (D : DevS) (c : Nat) : Prop where
  dev : DevIs wr a D
  ref : RefIs wr r D
  bd : Bd D c
  pl : Holds wr pb #[.int .i64 P.a, .int .i64 (P.l : Int), .int .i64 P.s, .int .i64 P.psi] 25
  gr : Gr [] w wr
/-- The region, the document's. -/
structure RPQ (w wr : World) (a : DevA) (r : RefA) (P : PlanR) (pb kb : Nat) (q : BkA) (rq : Nat) (B : BkS) (m j c : Nat) : Prop where
  rg : RgIs wr kb q a P B m j c
  rh : Holds wr rq (rqRow P c) 34
  qr : ∀ x ∈ kb :: q.all, x ∉ r.all
  qn : ∀ x ∈ kb :: q.all, w.heap.size ≤ x
  qp : pb ∉ kb :: q.all
  rr : rq ∉ r.all
  ra : rq ∉ a.all
  rk : rq ∉ kb :: q.all
  rp : rq ≠ pb
  rn : w.heap.size ≤ rq
section
variable {w wr w5 w6 : World} {a : DevA} {r : RefA} {P : PlanR} {pb kb rq : Nat} {D D' : DevS} {B B' : BkS} {q : BkA} {m j cs c j' cs' : Nat}
theorem RPD.fu (h : RPD w wr a r P pb D c) : Fu D c := ⟨h.bd, h.dev.ok.fu⟩
theorem RPD.mbb (h : RPD w wr a r P pb D c) : MBB D := ⟨h.dev.ok.medB, h.dev.ok.bufB⟩
theorem RPD.gr0 (h : RPD w wr a r P pb D c) (g : Gr [] wr w5) : RPD w w5 a r P pb D c := ⟨h.dev.gr0 g, h.ref.gr0 g, h.bd, h.pl.gr0 g, h.gr.trans g⟩
theorem RPQ.gr0 (h : RPQ w wr a r P pb kb q rq B m j cs) (g : Gr [] wr w5) : RPQ w w5 a r P pb kb q rq B m j cs := ⟨h.rg.gr0 g, h.rh.gr0 g, h.qr, h.qn, h.qp, h.rr, h.ra, h.rk, h.rp, h.rn⟩
theorem RPD.more (h : RPD w wr a r P pb D c) {c' : Nat} (hc : c ≤ c') : RPD w wr a r P pb D c' := ⟨h.dev, h.ref, h.bd.mono hc, h.pl, h.gr⟩
theorem RPQ.more (h : RPQ w wr a r P pb kb q rq B m j cs) {m' : Nat} (hm : m ≤ m') : RPQ w wr a r P pb kb q rq B m' j cs := ⟨h.rg.moreN hm, h.rh, h.qr, h.qn, h.qp, h.rr, h.ra, h.rk, h.rp, h.rn⟩
theorem mem_kqa {x : Nat} (hx : x ∈ kb :: (q.all ++ a.all)) : x ∈ kb :: q.all ∨ x ∈ a.all := by
  rcases List.mem_cons.1 hx with rfl | hx
  · exact .inl (by simp)
  · rcases List.mem_append.1 hx with hx | hx
    · exact .inl (by simp [hx])
    · exact .inr hx
/-- The program's write has moved. -/
theorem RPD.mid (h : RPD w wr a r P pb D c) (F : RPF w a r pb) (hq : RPQ w wr a r P pb kb q rq B m j cs) (g5 : Gr (kb :: (q.all ++ a.all)) wr w5) : RefIs w5 r D ∧ Holds w5 rq (rqRow P cs) 34 ∧ Gr [] w w5 :=
  ⟨h.ref.gr g5 (fun x hx hy => (mem_kqa hy).elim (fun z => hq.qr x z hx) fun z => F.ar x z hx), hq.rh.gr g5 (fun hy => (mem_kqa hy).elim hq.rk hq.ra), h.gr.nextN g5 fun x hx => .inr ((mem_kqa hx).elim (hq.qn x) (F.la x))⟩
/-- Then the document's. -/
theorem RPD.after (h : RPD w wr a r P pb D c) (F : RPF w a r pb) (hq : RPQ w wr a r P pb kb q rq B m j cs) (d5 : DevIs w5 a D') (g5 : Gr (kb :: (q.all ++ a.all)) wr w5) (r6 : RefIs w6 r D') (g6 : Gr (rq :: r.all) w5 w6) {c' : Nat} (hb : Bd D' c') : RPD w w6 a r P pb D' c' :=
  ⟨d5.gr g6 (fun x hx hy => (List.mem_cons.1 hy).elim (fun e => hq.ra (e ▸ hx)) (F.ar x hx)), r6, hb,
   (h.pl.gr g5 (fun hy => (mem_kqa hy).elim hq.qp F.pa)).gr g6 (fun hy => (List.mem_cons.1 hy).elim (fun e => hq.rp e.symm) F.pr),
   (h.mid F hq g5).2.2.nextN g6 fun x hx => .inr ((List.mem_cons.1 hx).elim (fun e => e ▸ hq.rn) (F.lr x))⟩
theorem RPQ.after (hq : RPQ w wr a r P pb kb q rq B m j cs) {m5 : Nat} (k5 : RgIs w5 kb q a P B' m5 j' cs') (h6 : Holds w6 rq (rqRow P cs') 34) (g6 : Gr (rq :: r.all) w5 w6) {m' : Nat} (hm : m5 ≤ m') : RPQ w w6 a r P pb kb q rq B' m' j' cs' :=
  ⟨(k5.gr g6 (fun hy => (List.mem_cons.1 hy).elim (fun e => hq.rk (by rw [← e]; simp)) (hq.qr kb (by simp))) (fun b hb hy => (List.mem_cons.1 hy).elim (fun e => hq.rk (by rw [← e]; simp [hb])) (hq.qr b (by simp [hb])))).moreN hm, h6, hq.qr, hq.qn, hq.qp, hq.rr, hq.ra, hq.rk, hq.rp, hq.rn⟩
/-- The devices alone have moved. -/
theorem RPD.moved (h : RPD w wr a r P pb D c) (F : RPF w a r pb) (d5 : DevIs w5 a D') (g5 : Gr a.all wr w5) (r6 : RefIs w6 r D') (g6 : Gr r.all w5 w6) {c' : Nat} (hb : Bd D' c') : RPD w w6 a r P pb D' c' :=
  ⟨d5.gr g6 (fun x hx => F.ar x hx), r6, hb, (h.pl.gr g5 F.pa).gr g6 F.pr, (h.gr.nextN g5 fun x hx => .inr (F.la x hx)).nextN g6 fun x hx => .inr (F.lr x hx)⟩
theorem RPD.midA (h : RPD w wr a r P pb D c) (F : RPF w a r pb) (g5 : Gr a.all wr w5) : RefIs w5 r D ∧ Gr [] w w5 :=
  ⟨h.ref.gr g5 (fun x hx hy => F.ar x hy hx), h.gr.nextN g5 fun x hx => .inr (F.la x hx)⟩
theorem RPQ.moved (hq : RPQ w wr a r P pb kb q rq B m j cs) (g5 : Gr a.all wr w5) (g6 : Gr r.all w5 w6) : RPQ w w6 a r P pb kb q rq B m j cs :=
  ⟨(⟨hq.rg.head.gr g5 hq.rg.ka, hq.rg.bk.grD g5, hq.rg.ok, hq.rg.kq, hq.rg.ka⟩ : RgIs w5 kb q a P B m j cs).gr g6 (hq.qr kb (by simp)) (fun b hb => hq.qr b (by simp [hb])), (hq.rh.gr g5 hq.ra).gr g6 hq.rr, hq.qr, hq.qn, hq.qp, hq.rr, hq.ra, hq.rk, hq.rp, hq.rn⟩
theorem OnR.brk (hP : OkR P) (h : OnR P D B j) {k : Nat} (hk : P.a + tabZ (bankR P) ≤ (k : Int)) : OnR P { D with bad := fun i => if i = k then true else D.bad i } B j :=
  ⟨⟨h.live.off, h.live.buf⟩, h.ti.keep (bare_calm _) rfl (fun _ _ => rfl) hP.ok (fun l q1 q2 => by
    have q2' : (l : Int) < P.a + tabZ (bankR P) := q2
    show (if l = k then true else D.bad l) = false
    rw [if_neg (by omega)]
    exact h.ti.tb l q1 q2), h.reg⟩
theorem OnR.fuse (h : OnR P D B j) (f : Int) : OnR P { D with fuse := f } B j := ⟨⟨h.live.off, h.live.buf⟩, h.ti, h.reg⟩
theorem OnR.out (hP : OkR P) (h : OnR P D B j) : OffR P j { D with fuse := 0, off := true } := by
  refine ⟨rfl, fun L kp hL => ?_⟩
  have hL2 : IsPend D L := hL
  have h0 : (bootD D L kp).med = (bare D).med := boot_live kp h.live hL2
  have hm : (bootD { D with fuse := 0, off := true } L kp).med = (bare D).med := h0
  refine ⟨B, j, .inl rfl, h.ti.congr hP.ok (boot_calm _ L kp) rfl rfl hm, ?_⟩
  unfold cntZ
  rw [hm]
  exact h.reg
end
end Go.Proofs.YtdgcninmpcmdcaaGreat
