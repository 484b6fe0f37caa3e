/-
  PkAw: SpBc, SpBd.
-/
import Derived.Test.YtjbhallhmnahbaaGreatPkAv
import Derived.Test.YtjbhallhmnahbaaGreatPkAo

set_option linter.unusedVariables false

/-
  Layer 5: the document's retire.
-/
namespace Go.Proofs.YtjbhallhmnahbaaGreat
open Go.RowKit
set_option linter.unusedVariables false

theorem fin_fu {D : DevS} {c l : Nat} (h : Fu D c) : Fu (finS l D).2 (c + 2) := by
  unfold finS
  split
  · exact (h.flush _ _).fence _
  · exact (h.flush _ _).mono (by omega)
theorem stos_fu (l k : Nat) (f : Nat → Nat) : ∀ (m i : Nat) (D : DevS) (c : Nat), Fu D c → Fu (stos l k f m i D).2 (c + m + 2)
  | 0, i, D, c, h => by unfold stos; exact fin_fu h
  | m + 1, i, D, c, h => by
    unfold stos
    split
    · exact (stos_fu l k f m (i + 1) _ (c + 1) (h.store _ _ _)).mono (by omega)
    · exact (h.store _ _ _).mono (by omega)
theorem put_fu {D : DevS} {c : Nat} (h : Fu D c) (z : Int) (s : ByteArray) : Fu (putE D z s).2 (c + 10) := by
  unfold putE
  split
  · exact h.mono (by omega)
  · split
    · exact (stos_fu _ _ _ _ _ _ _ h).mono (by omega)
    · exact h.mono (by omega)
theorem pw_fu {D : DevS} {c : Nat} (h : Fu D c) (z k : Int) (v : Nat) : Fu (pwE D z k v).2 (c + 3) := by
  unfold pwE
  split
  · exact h.mono (by omega)
  · split
    · exact (stos_fu _ _ _ _ _ _ _ h).mono (by omega)
    · exact h.mono (by omega)
def MB (D : DevS) : Prop := ∀ x, D.med x < 18446744073709551616
theorem Whole.mb {D E : DevS} {l b m : Nat} {f : Nat → Nat} (h : Whole D E l b m f) (hD : MB D) (hf : ∀ k, f k < 18446744073709551616) : MB E := fun x => by
  rw [h.med]
  split
  · exact hf _
  · exact hD x
section
variable {p : PlanZ} {D : DevS} {B : BkS} {s : ByteArray} {i : Int}
theorem rep_step (h : TI p (bare D) B) (hd : Live D) (hmb : MB D) (hok : okZ p = true) (hi : inP p i) (hs : s.size = 64) (hu : (B.used : Int) < p.s) :
    ∃ l : Nat, spareP p (B.used : Int) = (l : Int) ∧ l < D.n ∧
      ((∃ D1, putE D (l : Int) s = (6, D1) ∧ ∀ n, ensS p i s (n + 1) D B = (6, D1, B)) ∨
       (∃ D1, putE D (l : Int) s = (0, D1) ∧ D1.n = D.n ∧ MB D1 ∧ ∃ (m : Nat) (e2 : Int) (D2 : DevS), m = markN D1 (l : Int) i s ∧ m < 281474976710656 ∧ pwE D1 (p.a + (B.used : Int) / 8) ((B.used : Int) % 8) (guardN m) = (e2, D2) ∧
         ((e2 = 6 ∧ ∀ n, ensS p i s (n + 1) D B = (6, D2, B)) ∨
          (e2 = 0 ∧ tookB D1 (l : Int) s = true ∧ ∃ B', ∀ n, ensS p i s (n + 1) D B = (0, D2, B')) ∨
          (e2 = 0 ∧ tookB D1 (l : Int) s = false ∧ ∃ B', B'.used = B.used + 1 ∧ TI p (bare D2) B' ∧ Live D2 ∧ MB D2 ∧ D2.n = D.n ∧ ∀ n, ensS p i s (n + 1) D B = ensS p i s n D2 B')))) := by
  obtain ⟨l, t, M, B', hl, hln, ti, us, yes, no, fr, hcase⟩ := rep_last h hd hok hi hs hu
  obtain ⟨h1, h2, h3, h4, h5, h6⟩ := (okZ_iff p).1 hok
  obtain ⟨i0, i9⟩ : 0 ≤ i ∧ i < p.l := hi
  have ht : 8 * tabZ p ≥ p.s := by unfold tabZ; omega
  have hsz : sizeZ p = tabZ p + p.l + p.s := by unfold sizeZ; rw [if_pos hok]
  have hfit : p.a + sizeZ p ≤ (D.n : Int) := h.fits
  obtain ⟨aN, haN⟩ : ∃ aN : Nat, p.a = (aN : Int) := ⟨p.a.toNat, by omega⟩
  have q2 : p.a + (B.used : Int) / 8 = ((aN + B.used / 8 : Nat) : Int) := by omega
  have q3 : (B.used : Int) % 8 = ((B.used % 8 : Nat) : Int) := by omega
  refine ⟨l, hl, hln, ?_⟩
  rcases put_live (l := l) hd hln hs with ⟨E2, e2, s2⟩ | ⟨E, e2, s2⟩
  · right
    refine ⟨E2, e2, s2.n, s2.mb hmb (fun k => wdL_lt _ _), markN E2 (l : Int) i s, ?_⟩
    have hmk : markN E2 (l : Int) i s < 281474976710656 := by
      unfold markN
      split <;> omega
    rcases putword_live (D := E2) (l := aN + B.used / 8) (k := B.used % 8) (v := guardN (markN E2 (l : Int) i s)) s2.live (by rw [s2.n]; omega) (by omega) with ⟨E4, e4, s4⟩ | ⟨E4, e4, s4⟩
    · refine ⟨0, E4, rfl, hmk, by rw [q2, q3]; exact e4, .inr ?_⟩
      have hr : replaceS p i s D B = ⟨tookB E2 (l : Int) s, 0, E4, ⟨B.used + 1, if tookB E2 (l : Int) s then updZ B.wh i (some B.used) else B.wh⟩⟩ := by
        unfold replaceS
        rw [hl, q2, q3, e2]
        simp only
        rw [e4]
        rfl
      rcases hcase with ⟨E, r, c1, c2, c3, c4⟩ | ⟨E, r, c1, c2, c3, c4⟩
      · rw [hr] at r
        injection r with r1 r2 r3 r4
        subst r3
        cases htk : tookB E2 (l : Int) s with
        | true =>
          refine .inl ⟨rfl, rfl, B', fun n => ?_⟩
          rw [ensS, hr, htk]
          simp only [true_or, if_true]
          rw [← r4, htk]
          rfl
        | false =>
          refine .inr ⟨rfl, rfl, B', us, ti.congr hok (bare_calm E4) c3 c4 c2, c1, s4.mb (s2.mb hmb (fun k => wdL_lt _ _)) (fun _ => guardN_lt _ (by omega)), c3, fun n => ?_⟩
          rw [ensS, hr, htk]
          rw [← r4, htk]
          simp
      · rw [hr] at r
        injection r with r1 r2 r3 r4
        omega
    · refine ⟨6, E4, rfl, hmk, by rw [q2, q3]; exact e4, .inl ⟨rfl, fun n => ?_⟩⟩
      have hr : replaceS p i s D B = ⟨false, 6, E4, B⟩ := by
        unfold replaceS
        rw [hl, q2, q3, e2]
        simp only
        rw [e4]
        rfl
      rw [ensS, hr]
      simp
  · left
    refine ⟨E, e2, fun n => ?_⟩
    have hr : replaceS p i s D B = ⟨false, 6, E, B⟩ := by
      unfold replaceS
      rw [hl, e2]
      rfl
    rw [ensS, hr]
    simp
end
section
variable {w : World} {r : RefA} {D : DevS} {p : PlanZ} {B : BkS} {c : Nat}
set_option maxRecDepth 100000 in
set_option maxHeartbeats 8000000 in
theorem rretire_any (i : Int) (s : ByteArray) (h : RefIs w r D) (hd : Live D) (hT : TI p (bare D) B) (hmb : MB D) (hb : Fu D c) (hc : c < 700000) (hok : okZ p = true) (hi : inP p i) (hs : s.size = 64) :
    Calls Tryz.prog 154 #[.pointer (some ⟨r.rd, 0, none⟩), planV p, .int .i64 i, .string s] w fun e w' => e = .returned (.int .i64 (ensS p i s (p.s - (B.used : Int)).toNat D B).1) ∧ RefIs w' r (ensS p i s (p.s - (B.used : Int)).toNat D B).2.1 ∧ Fu (ensS p i s (p.s - (B.used : Int)).toNat D B).2.1 (c + 1000) ∧ Gr r.all w w' := by
  obtain ⟨h1, h2, h3, h4, h5, h6⟩ := (okZ_iff p).1 hok
  obtain ⟨i0, i9⟩ : 0 ≤ i ∧ i < p.l := hi
  have ht : 0 ≤ tabZ p ∧ tabZ p ≤ 8 := by unfold tabZ; omega
  have hfit : p.a + sizeZ p ≤ (D.n : Int) := hT.fits
  obtain ⟨S, hS⟩ : ∃ S : Nat, p.s = (S : Int) := ⟨p.s.toNat, by omega⟩
  have hus : B.used ≤ S := by have := hT.us; omega
  obtain ⟨N, hN⟩ : ∃ N : Nat, N = S - B.used := ⟨_, rfl⟩
  have hN2 : (p.s - (B.used : Int)).toNat = N := by omega
  rw [hN2]
  obtain ⟨X, hX⟩ : ∃ X, X = ensS p i s N D B := ⟨_, rfl⟩
  rw [← hX]
  obtain ⟨c0, c1, c2⟩ := rplan_cells p w
  have HG := Lib.hid ((Gr.refl [] w).alloc (Obj.cells #[.int .i64 p.a, .int .i64 p.l, .int .i64 p.s] 138))
  obtain ⟨w1, hw1⟩ : ∃ w1, w1 = w.alloc (Obj.cells #[.int .i64 p.a, .int .i64 p.l, .int .i64 p.s] 138) := ⟨_, rfl⟩
  obtain ⟨pb, hpb⟩ : ∃ pb, pb = w.heap.size := ⟨_, rfl⟩
  have HNP := Lib.hid (show pb ∉ r.all from fun q => by have := h.lt _ q; omega)
  rw [← hpb, ← hw1] at c0 c1 c2
  rw [← hw1] at HG
  have HT := Lib.hid (fun W => show Calls Tryz.prog 130 #[.agg #[.int .i64 p.a, .int .i64 p.l, .int .i64 p.s]] W _ from rtable_any p hok W)
  have HEn := Lib.hid (fun (W : World) (D' : DevS) (l : List Nat) (q1 : RefIs W r D') (q2 : D'.off = false) (q3 : p.a + sizeZ p ≤ (D'.n : Int)) (q4 : Marks p D' l) => show Calls Tryz.prog 135 #[.pointer (some ⟨r.rd, 0, none⟩), .agg #[.int .i64 p.a, .int .i64 p.l, .int .i64 p.s]] W _ from rentries_any q1 q2 hok q3 q4)
  obtain ⟨t, htt⟩ : ∃ t, t = tabZ p := ⟨_, rfl⟩
  have HSP := Lib.hid (show ∀ k : Int, spareP p k = p.a + t + p.l + k from fun k => by rw [htt]; rfl)
  rw [← htt] at HT ht
  have a1 : IntKind.i64.wrap (p.a + t) = p.a + t := IntWalk.i64_in _ (by omega)
  have a2 : IntKind.i64.wrap (p.a + t + p.l) = p.a + t + p.l := IntWalk.i64_in _ (by omega)
  have a3 : IntKind.i64.wrap (i + 1) = i + 1 := IntWalk.i64_in _ (by omega)
  have a4 : IntKind.u64.wrap (i + 1) = i + 1 := IntWalk.u64_in _ (by omega)
  have HK := Lib.hid (And.intro hok (And.intro (show inP p i from ⟨i0, i9⟩) (And.intro hs (And.intro hfit (And.intro hS (And.intro (show S ≤ 64 by omega) (And.intro hc (And.intro h1 (And.intro h2 (And.intro h4 (And.intro ht h3)))))))))))
  have HX := Lib.hid hX
  have H0 := Lib.hid (And.intro h (And.intro hd (And.intro hT (And.intro hmb (And.intro hb (And.intro hus hN))))))
  have HSS := Lib.hid (show s.size ≤ maxLen by rw [hs]; unfold maxLen; omega)
  have HPS := Lib.hid hS
  have HNN := Lib.hid (show N ≤ 64 by omega)
  clear h hd hT hmb hb hok hs hfit h1 h2 h3 h4 h5 h6 ht htt hus hN hN2 hX i0 i9 hc hS
  unfold planV
  go_enter Tryz.func154, Tryz.ntmps154
  go_wp2_with fail
  rw [← hw1]
  rw [← hpb]
  clear hw1 hpb
  refine (HT.out _).mono ?_
  rintro e w2 ⟨rfl, b2⟩
  have g2 := Gr.ofBelow (cs := []) b2
  replace c0 := (g2.cell0 (World.block_lt_of_cell? w1 _ c0)).trans c0
  replace c1 := (g2.cell0 (World.block_lt_of_cell? w1 _ c1)).trans c1
  replace c2 := (g2.cell0 (World.block_lt_of_cell? w1 _ c2)).trans c2
  have HG2 := Lib.hid (HG.out.trans g2)
  have HCP := Lib.hid (And.intro c0 (And.intro c1 c2))
  clear b2 g2 c0 c1 c2 HG HT
  go_wp2_with fail
  go_loopg [] N (fun n wr => ∃ (D' : DevS) (B' : BkS), n ≤ N ∧ RefIs wr r D' ∧ Live D' ∧ TI p (bare D') B' ∧ MB D' ∧ D'.n = D.n ∧ B'.used + n = S ∧ ensS p i s n D' B' = X ∧ Fu D' (c + 13 * (N - n)) ∧ Gr r.all w2 wr)
  case atStart => exact ⟨D, B, Nat.le_refl _, H0.out.1.gr0 HG2.out, H0.out.2.1, H0.out.2.2.1, H0.out.2.2.2.1, rfl, by have := H0.out.2.2.2.2.2; omega, HX.out.symm, H0.out.2.2.2.2.1.mono (by omega), Gr.refl _ _⟩
  case round =>
    obtain ⟨D', B', hgk, r1, r2, r3, r4, r5, r6, r7, r8, r9⟩ := hrel
    have c0 := (cell_gr r9 (World.block_lt_of_cell? w2 _ HCP.out.1) HNP.out).trans HCP.out.1
    have c1 := (cell_gr r9 (World.block_lt_of_cell? w2 _ HCP.out.2.1) HNP.out).trans HCP.out.2.1
    have c2 := (cell_gr r9 (World.block_lt_of_cell? w2 _ HCP.out.2.2) HNP.out).trans HCP.out.2.2
    obtain ⟨l, hM, hl, _⟩ := r3.marks r2 HK.out.1 r4
    have HE := Lib.hid (HEn.out wr D' l r1 r2.off (by rw [r5]; exact HK.out.2.2.2.1) hM)
    have HR := Lib.hid (And.intro r1 (And.intro r2 (And.intro r3 (And.intro r4 (And.intro r5 (And.intro r6 (And.intro r7 (And.intro r8 r9))))))))
    have hlu : l.length = B'.used := hl
    rw [hlu] at HE
    obtain ⟨u, hu⟩ : ∃ u, u = B'.used := ⟨_, rfl⟩
    rw [← hu] at HE
    have HU := Lib.hid hu
    have hS64 : S ≤ 64 := HK.out.2.2.2.2.2.1
    have huS : u + gk = S := by omega
    clear r1 r2 r3 r4 r5 r6 r7 r8 r9 hM hl hlu hu
    go_wp2_with fail
    refine HE.out.mono ?_
    rintro e w3 ⟨po, pc, rfl, hrow, g3⟩
    have HG3 := Lib.hid g3
    replace c0 := (g3.cell0 (World.block_lt_of_cell? wr _ c0)).trans c0
    replace c1 := (g3.cell0 (World.block_lt_of_cell? wr _ c1)).trans c1
    replace c2 := (g3.cell0 (World.block_lt_of_cell? wr _ c2)).trans c2
    clear hrow g3 HE
    have hu64 : u ≤ 64 := by omega
    obtain ⟨j1, j2, j3, j4, j5⟩ := HK.out.2.2.2.2.2.2.2
    have hps2 : p.s ≤ 64 := by have := HPS.out; omega
    rcases gk with _ | m
    · have ik : p.s ≤ (u : Int) := by have := HPS.out; omega
      have HX2 := Lib.hid (show ensS p i s 0 D' B' = X from HR.out.2.2.2.2.2.2.1)
      clear huS hS64 j1 j2 j3 j4 j5
      go_wp2_with fail
      go_ret
      rw [← HX2.out]
      exact ⟨rfl, HR.out.1.gr0 HG3.out, HR.out.2.2.2.2.2.2.2.1.mono (by have := HNN.out; omega), ((HG2.out.of0).trans HR.out.2.2.2.2.2.2.2.2).next0 HG3.out⟩
    · have ik : ¬ (p.s ≤ (u : Int)) := by have := HPS.out; omega
      obtain ⟨l, hl, hln, hcase⟩ := rep_step (i := i) HR.out.2.2.1 HR.out.2.1 HR.out.2.2.2.1 HK.out.1 HK.out.2.1 HK.out.2.2.1 (by rw [← HU.out]; omega)
      rw [← HU.out, HSP.out] at hl
      have HP := Lib.hid (fun W (q : RefIs W r D') => rput4_any r D' (l : Int) s (c + 13 * (N - (m + 1))) W q HR.out.2.2.2.2.2.2.2.1 (by have := HK.out.2.2.2.2.2.2.1; have := HNN.out; omega) HSS.out)
      have a5 : IntKind.i64.wrap (p.a + t + p.l + (u : Int)) = (l : Int) := by rw [← hl]; exact IntWalk.i64_in _ (by omega)
      have HL := Lib.hid (And.intro hl hln)
      have HX2 := Lib.hid HR.out.2.2.2.2.2.2.1
      have HFU := Lib.hid (put_fu HR.out.2.2.2.2.2.2.2.1 (l : Int) s)
      clear huS hl hln
      rcases hcase with ⟨D1, p1, p2⟩ | ⟨D1, p1, p2, p3, mk, e2, D2, p4, p5, p6, p7⟩
      · rw [p1] at HP HFU
        have HX3 := Lib.hid ((p2 m).symm.trans HX2.out)
        clear p1 p2 j1 j2 j3 j4 j5
        go_wp2_with fail
        refine (HP.out _ (HR.out.1.gr0 HG3.out)).mono ?_
        rintro e w4 ⟨rfl, d4, g4⟩
        have H4 := Lib.hid (And.intro d4 ((((HG2.out.of0).trans HR.out.2.2.2.2.2.2.2.2).next0 HG3.out).trans g4))
        clear d4 g4
        go_wp2_with fail
        go_ret
        rw [← HX3.out]
        exact ⟨rfl, H4.out.1, HFU.out.mono (by have := HNN.out; omega), H4.out.2⟩
      · rw [p1] at HP HFU
        have HMd := Lib.hid (fun W (q : RefIs W r D1) => rmedia4_any r D1 l W q (by rw [p2]; exact HL.out.2) p3)
        have hq := took_eq p3 (l := l) (by rw [p2]; exact HL.out.2) HK.out.2.2.1
        have hmk : mk = if tookB D1 (l : Int) s then i.toNat + 1 else 65535 := p4
        have HGd := Lib.hid (fun W => rguard mk W (by omega))
        have HPW := Lib.hid (fun W (q : RefIs W r D1) => rputword_any r D1 (p.a + (u : Int) / 8) ((u : Int) % 8) (guardN mk) _ W q HFU.out (by have := HK.out.2.2.2.2.2.2.1; have := HNN.out; omega))
        have HFW := Lib.hid (pw_fu HFU.out (p.a + (u : Int) / 8) ((u : Int) % 8) (guardN mk))
        rw [← HU.out] at p6
        rw [p6] at HPW HFW
        have HSt := Lib.hid p7
        have HDN := Lib.hid (And.intro p2 (And.intro p3 HR.out.2.2.2.2.1))
        obtain ⟨g, hg⟩ : ∃ g, g = guardN mk := ⟨_, rfl⟩
        rw [← hg] at HGd HPW
        obtain ⟨G, hG⟩ : ∃ G, G = medS D1 l := ⟨_, rfl⟩
        rw [← hG] at hq
        have HMd2 := Lib.hid (fun W (q : RefIs W r D1) => show Calls Tryz.prog 53 #[.pointer (some ⟨r.rd, 0, none⟩), .int .i64 (l : Int)] W fun e w' => e = .returned (.string G) ∧ Gr [] W w' by rw [hG]; exact HMd.out W q)
        clear hG hg p1 p2 p3 p4 p6 p7 HMd
        have a6 : IntKind.i64.wrap (p.a + (u : Int) / 8) = p.a + (u : Int) / 8 := IntWalk.i64_in _ (by omega)
        go_wp2_with fail
        refine (HP.out _ (HR.out.1.gr0 HG3.out)).mono ?_
        rintro e w4 ⟨rfl, d4, g4⟩
        replace c0 := (cell_gr g4 (World.block_lt_of_cell? w3 _ c0) HNP.out).trans c0
        have H4 := Lib.hid (And.intro d4 ((((HG2.out.of0).trans HR.out.2.2.2.2.2.2.2.2).next0 HG3.out).trans g4))
        have HG4 := Lib.hid ((HR.out.2.2.2.2.2.2.2.2.next0 HG3.out).trans g4)
        clear d4 g4 c1 c2
        go_wp2_with fail
        refine (HMd2.out _ H4.out.1).mono ?_
        rintro e w5 ⟨rfl, g5⟩
        replace c0 := (g5.cell0 (World.block_lt_of_cell? w4 _ c0)).trans c0
        have H5 := Lib.hid (And.intro (H4.out.1.gr0 g5) (And.intro (H4.out.2.next0 g5) (HG4.out.next0 g5)))
        clear g5 H4 HG4
        have hq2 := hq.symm
        clear hq
        cases htk : tookB D1 (l : Int) s with
        | true =>
          rw [htk] at hq2 hmk
          rw [if_pos rfl] at hmk
          have hmI : (mk : Int) = i + 1 := by rw [hmk]; have := HK.out.2.1; unfold inP at this; omega
          have HTK := Lib.hid htk
          rw [hmI] at HGd
          clear htk hmk hmI
          go_wp2_with fail
          refine (HGd.out _).mono ?_
          rintro e w6 ⟨rfl, b6⟩
          have g6 := Gr.ofBelow (cs := []) b6
          replace c0 := (g6.cell0 (World.block_lt_of_cell? w5 _ c0)).trans c0
          have H6 := Lib.hid (And.intro (H5.out.1.gr0 g6) (And.intro (H5.out.2.1.next0 g6) (H5.out.2.2.next0 g6)))
          clear b6 g6
          go_wp2_with fail
          refine (HPW.out _ H6.out.1).mono ?_
          rintro e w7 ⟨rfl, d7, g7⟩
          have H7 := Lib.hid (And.intro d7 (And.intro (H6.out.2.1.trans g7) (H6.out.2.2.trans g7)))
          clear d7 g7 c0
          rcases HSt.out with ⟨rfl, z1⟩ | ⟨rfl, _, Bz, z1⟩ | ⟨rfl, z1, _⟩
          · have HX3 := Lib.hid ((z1 m).symm.trans HX2.out)
            clear z1
            go_wp2_with fail
            go_ret
            rw [← HX3.out]
            exact ⟨rfl, H7.out.1, HFW.out.mono (by have := HNN.out; omega), H7.out.2.1⟩
          · have HX3 := Lib.hid ((z1 m).symm.trans HX2.out)
            clear z1
            go_wp2_with fail
            go_ret
            rw [← HX3.out]
            exact ⟨rfl, H7.out.1, HFW.out.mono (by have := HNN.out; omega), H7.out.2.1⟩
          · exact absurd (HTK.out.symm.trans z1) (by simp)
        | false =>
          rw [htk] at hq2 hmk
          have hmI : (mk : Int) = 65535 := by rw [hmk]; rfl
          have HTK := Lib.hid htk
          rw [hmI] at HGd
          clear htk hmk hmI
          go_wp2_with fail
          refine (HGd.out _).mono ?_
          rintro e w6 ⟨rfl, b6⟩
          have g6 := Gr.ofBelow (cs := []) b6
          replace c0 := (g6.cell0 (World.block_lt_of_cell? w5 _ c0)).trans c0
          have H6 := Lib.hid (And.intro (H5.out.1.gr0 g6) (And.intro (H5.out.2.1.next0 g6) (H5.out.2.2.next0 g6)))
          clear b6 g6
          go_wp2_with fail
          refine (HPW.out _ H6.out.1).mono ?_
          rintro e w7 ⟨rfl, d7, g7⟩
          have H7 := Lib.hid (And.intro d7 (And.intro (H6.out.2.1.trans g7) (H6.out.2.2.trans g7)))
          clear d7 g7 c0
          rcases HSt.out with ⟨rfl, z1⟩ | ⟨rfl, z1, _⟩ | ⟨rfl, _, Bz, z2, z3, z4, z5, z6, z7⟩
          · have HX3 := Lib.hid ((z1 m).symm.trans HX2.out)
            clear z1
            go_wp2_with fail
            go_ret
            rw [← HX3.out]
            exact ⟨rfl, H7.out.1, HFW.out.mono (by have := HNN.out; omega), H7.out.2.1⟩
          · exact absurd (HTK.out.symm.trans z1) (by simp)
          · have HX3 := Lib.hid (And.intro ((z7 m).symm.trans HX2.out) (And.intro z2 (And.intro z3 (And.intro z4 (And.intro z5 z6)))))
            clear z2 z3 z4 z5 z6 z7
            go_wp2_with fail
            go_roundg m
            case measure => omega
            case rel => exact ⟨D2, Bz, by omega, H7.out.1, HX3.out.2.2.2.1, HX3.out.2.2.1, HX3.out.2.2.2.2.1, HX3.out.2.2.2.2.2.trans HDN.out.2.2, by have := HX3.out.2.1; have := HU.out; have := HR.out.2.2.2.2.2.1; omega, HX3.out.1, HFW.out.mono (by omega), H7.out.2.2⟩
end
end Go.Proofs.YtjbhallhmnahbaaGreat

/-
  Layer 5: the document's Write.
-/
namespace Go.Proofs.YtjbhallhmnahbaaGreat
open Go.RowKit
set_option linter.unusedVariables false

section
variable {p : PlanZ} {D : DevS} {B : BkS} {s : ByteArray} {i : Int}
theorem put_zero {l : Nat} {D1 : DevS} (h : TI p (bare D) B) (hd : Live D) (hmb : MB D) (hok : okZ p = true) (hl1 : p.a + tabZ p ≤ (l : Int)) (hln : l < D.n) (hs : s.size = 64) (he : putE D (l : Int) s = (0, D1)) : Live D1 ∧ TI p (bare D1) B ∧ MB D1 ∧ D1.n = D.n := by
  rcases put_live (l := l) hd hln hs with ⟨E2, e2, s2⟩ | ⟨E, e2, s2⟩
  · rw [he] at e2
    have : D1 = E2 := (Prod.mk.inj e2).2
    subst this
    exact ⟨s2.live, h.keep (bare_calm D1) (by show D1.n = _; rw [s2.n]; rfl) (fun x hx => by show D1.med x = D.med x; rw [s2.med, if_neg (by omega)]) hok (fun l q1 q2 => by show D1.bad l = _; rw [s2.bad]; exact h.tb l q1 q2), s2.mb hmb (fun k => wdL_lt _ _), s2.n⟩
  · rw [he] at e2
    have : (0 : Int) = 6 := (Prod.mk.inj e2).1
    omega
end
section
variable {w : World} {r : RefA} {D : DevS} {p : PlanZ} {B : BkS} {c : Nat}
def RWPost (w : World) (r : RefA) (c : Nat) (X : Int × DevS × BkS) (e : Ending) (w' : World) : Prop := e = .returned (.int .i64 X.1) ∧ RefIs w' r X.2.1 ∧ Fu X.2.1 (c + 1400) ∧ Gr r.all w w'
set_option maxRecDepth 100000 in
set_option maxHeartbeats 8000000 in
theorem rwrite_any (i : Int) (s : ByteArray) (h : RefIs w r D) (hd : Live D) (hT : TI p (bare D) B) (hmb : MB D) (hb : Fu D c) (hc : c < 600000) (hok : okZ p = true) (hsz : s.size ≤ maxLen) :
    Calls Tryz.prog 125 #[.pointer (some ⟨r.rd, 0, none⟩), planV p, .int .i64 i, .string s] w (RWPost w r c (writeS p i s D B)) := by
  obtain ⟨c0, c1, c2⟩ := rplan_cells p w
  have HG := Lib.hid ((Gr.refl [] w).alloc (Obj.cells #[.int .i64 p.a, .int .i64 p.l, .int .i64 p.s] 138))
  obtain ⟨w1, hw1⟩ : ∃ w1, w1 = w.alloc (Obj.cells #[.int .i64 p.a, .int .i64 p.l, .int .i64 p.s] 138) := ⟨_, rfl⟩
  obtain ⟨pb, hpb⟩ : ∃ pb, pb = w.heap.size := ⟨_, rfl⟩
  have HNP := Lib.hid (show pb ∉ r.all from fun q => by have := h.lt _ q; omega)
  rw [← hpb, ← hw1] at c0 c1 c2
  rw [← hw1] at HG
  by_cases hs : s.size = 64
  · by_cases hi : inP p i
    · obtain ⟨l0, hp, hln, hl1, hl2⟩ := hT.place hok hi
      obtain ⟨l, hM, hlu, hwh⟩ := hT.marks hd hok hmb
      obtain ⟨h1, h2, h3, h4, h5, h6⟩ := (okZ_iff p).1 hok
      have hfit : p.a + sizeZ p ≤ (D.n : Int) := hT.fits
      have hln2 : l0 < D.n := hln
      have HEn := Lib.hid (show Calls Tryz.prog 135 #[.pointer (some ⟨r.rd, 0, none⟩), .agg #[.int .i64 p.a, .int .i64 p.l, .int .i64 p.s]] w1 _ from rentries_any (h.gr0 HG.out) hd.off hok hfit hM)
      have HWh := Lib.hid (fun (W : World) (po : Option Addr) (pc : Nat) (hr : RowAt W po l) => show Calls Tryz.prog 136 #[.agg #[.int .i64 p.a, .int .i64 p.l, .int .i64 p.s], .slice po l.length pc, .int .i64 i] W _ from rwhere_any i hok hi hM.len (fun j m e => (hM.each j m e).2) hr)
      rw [hwh i hi, hp] at HWh
      have HP := Lib.hid (fun W (q : RefIs W r D) => rput4_any r D (l0 : Int) s c W q hb (by omega) hsz)
      have HFU := Lib.hid (put_fu hb (l0 : Int) s)
      have hwr : writeS p i s D B = if (putE D (l0 : Int) s).1 ≠ 0 then ((putE D (l0 : Int) s).1, (putE D (l0 : Int) s).2, B) else ensureS p i (l0 : Int) s (putE D (l0 : Int) s).2 B := by
        unfold writeS
        rw [if_neg (by simp [hs]), if_pos hi, hp]
      have HD := Lib.hid h
      have HPZ := Lib.hid (fun D1 => put_zero (D1 := D1) hT hd hmb hok hl1 hln2 hs)
      obtain ⟨i0, i9⟩ : 0 ≤ i ∧ i < p.l := hi
      have ik1 : ¬ (i < 0) := by omega
      have ik2 : ¬ (p.l ≤ i) := by omega
      have HK := Lib.hid (And.intro hok (And.intro (show inP p i from ⟨i0, i9⟩) (And.intro hs (And.intro hc hln2))))
      obtain ⟨e1, D1, hx⟩ : ∃ e1 D1, putE D (l0 : Int) s = (e1, D1) := ⟨_, _, rfl⟩
      rw [hx] at HP HFU hwr
      have HX := Lib.hid hx
      have HWR := Lib.hid hwr
      clear h hd hT hmb hb hok hp hln hl1 hl2 hM hlu hwh h1 h2 h3 h4 h5 h6 hfit hln2 hwr hx i0 i9 hc hsz
      obtain ⟨N, hN⟩ : ∃ N, N = l.length := ⟨_, rfl⟩
      rw [← hN] at HEn HWh
      clear hN
      unfold planV
      go_enter Tryz.func125, Tryz.ntmps125
      go_wp2_with fail
      rw [← hw1]
      rw [← hpb]
      clear hw1 hpb hs
      refine HEn.out.mono ?_
      rintro e w2 ⟨po, pc, rfl, hrow, g2⟩
      have HRow := Lib.hid hrow
      replace c0 := (g2.cell0 (World.block_lt_of_cell? w1 _ c0)).trans c0
      replace c1 := (g2.cell0 (World.block_lt_of_cell? w1 _ c1)).trans c1
      replace c2 := (g2.cell0 (World.block_lt_of_cell? w1 _ c2)).trans c2
      have HG2 := Lib.hid (HG.out.trans g2)
      clear hrow g2 HG HEn
      go_wp2_with fail
      refine (HWh.out _ po pc HRow.out).mono ?_
      rintro e w3 ⟨rfl, g3⟩
      replace c0 := (g3.cell0 (World.block_lt_of_cell? w2 _ c0)).trans c0
      replace c1 := (g3.cell0 (World.block_lt_of_cell? w2 _ c1)).trans c1
      replace c2 := (g3.cell0 (World.block_lt_of_cell? w2 _ c2)).trans c2
      have HG3 := Lib.hid (HG2.out.trans g3)
      clear g3 HG2 HRow HWh
      go_wp2_with fail
      refine (HP.out _ (HD.out.gr0 HG3.out)).mono ?_
      rintro e w4 ⟨rfl, d4, g4⟩
      replace c0 := (cell_gr g4 (World.block_lt_of_cell? w3 _ c0) HNP.out).trans c0
      replace c1 := (cell_gr g4 (World.block_lt_of_cell? w3 _ c1) HNP.out).trans c1
      replace c2 := (cell_gr g4 (World.block_lt_of_cell? w3 _ c2) HNP.out).trans c2
      have H4 := Lib.hid (And.intro d4 ((HG3.out.of0).trans g4))
      clear d4 g4 HP
      by_cases he : e1 = 0
      · subst he
        obtain ⟨z1, z2, z3, z4⟩ := HPZ.out D1 HX.out
        have hq := took_eq z3 (l := l0) (by rw [z4]; exact HK.out.2.2.2.2) HK.out.2.2.1
        obtain ⟨G, hG⟩ : ∃ G, G = medS D1 l0 := ⟨_, rfl⟩
        rw [← hG] at hq
        have HMd := Lib.hid (fun W (q : RefIs W r D1) => show Calls Tryz.prog 53 #[.pointer (some ⟨r.rd, 0, none⟩), .int .i64 (l0 : Int)] W fun e w' => e = .returned (.string G) ∧ Gr [] W w' by rw [hG]; exact rmedia4_any r D1 l0 W q (by rw [z4]; exact HK.out.2.2.2.2) z3)
        have HRt := Lib.hid (fun W (q : RefIs W r D1) => show Calls Tryz.prog 154 #[.pointer (some ⟨r.rd, 0, none⟩), .agg #[.int .i64 p.a, .int .i64 p.l, .int .i64 p.s], .int .i64 i, .string s] W _ from rretire_any i s q z1 z2 z3 HFU.out (by have := HK.out.2.2.2.1; omega) HK.out.1 HK.out.2.1 HK.out.2.2.1)
        have hq2 := hq.symm
        have hwr : writeS p i s D B = ensureS p i (l0 : Int) s D1 B := by rw [HWR.out]; simp
        clear hq hG z1 z2 z3 z4
        cases htk : tookB D1 (l0 : Int) s with
        | true =>
          rw [htk] at hq2
          have HWR2 := Lib.hid (show writeS p i s D B = (0, D1, B) by rw [hwr]; unfold ensureS; rw [htk]; rfl)
          clear htk hwr
          go_wp2_with fail
          refine (HMd.out _ H4.out.1).mono ?_
          rintro e w5 ⟨rfl, g5⟩
          have H5 := Lib.hid (And.intro (H4.out.1.gr0 g5) (H4.out.2.next0 g5))
          clear g5
          go_wp2_with fail
          go_ret
          rw [HWR2.out]
          exact ⟨rfl, H5.out.1, HFU.out.mono (by omega), H5.out.2⟩
        | false =>
          rw [htk] at hq2
          obtain ⟨X, hX⟩ : ∃ X, X = ensS p i s (p.s - (B.used : Int)).toNat D1 B := ⟨_, rfl⟩
          rw [← hX] at HRt
          have HWR2 := Lib.hid (show writeS p i s D B = X by rw [hwr, hX]; unfold ensureS; rw [htk]; rfl)
          clear hX
          clear htk hwr
          go_wp2_with fail
          refine (HMd.out _ H4.out.1).mono ?_
          rintro e w5 ⟨rfl, g5⟩
          replace c0 := (g5.cell0 (World.block_lt_of_cell? w4 _ c0)).trans c0
          replace c1 := (g5.cell0 (World.block_lt_of_cell? w4 _ c1)).trans c1
          replace c2 := (g5.cell0 (World.block_lt_of_cell? w4 _ c2)).trans c2
          have H5 := Lib.hid (And.intro (H4.out.1.gr0 g5) (H4.out.2.next0 g5))
          clear g5
          go_wp2_with fail
          refine (HRt.out _ H5.out.1).mono ?_
          rintro e w6 ⟨rfl, d6, f6, g6⟩
          have H6 := Lib.hid (And.intro d6 (And.intro f6 (H5.out.2.trans g6)))
          clear d6 f6 g6
          go_wp2_with fail
          go_ret
          rw [HWR2.out]
          exact ⟨rfl, H6.out.1, H6.out.2.1.mono (by omega), H6.out.2.2⟩
      · have b1 : (e1 != 0) = true := by simpa using he
        have HWR2 := Lib.hid (show writeS p i s D B = (e1, D1, B) by rw [HWR.out, if_pos he])
        clear he
        go_wp2_with fail
        go_ret
        rw [HWR2.out]
        exact ⟨rfl, H4.out.1, HFU.out.mono (by omega), H4.out.2⟩
    · have HX := Lib.hid (show writeS p i s D B = (3, D, B) by unfold writeS; rw [if_neg (by simp [hs]), if_neg hi])
      have HD := Lib.hid (And.intro h hb)
      have hor : i < 0 ∨ ¬ (i < 0) ∧ p.l ≤ i := by unfold inP at hi; omega
      clear h hd hT hmb hb hok hi hc hsz
      unfold planV
      rcases hor with hor | ⟨hor, hor2⟩
      all_goals
        go_enter Tryz.func125, Tryz.ntmps125
        go_wp2_with fail
        go_ret
        rw [HX.out]
        rw [← hw1]
        exact ⟨rfl, HD.out.1.gr0 HG.out, HD.out.2.mono (by omega), HG.out.of0⟩
  · have HX := Lib.hid (show writeS p i s D B = (2, D, B) by unfold writeS; rw [if_pos hs])
    have HD := Lib.hid (And.intro h hb)
    have b1 : ((s.size : Int) != 64) = true := by simp only [bne_iff_ne, ne_eq]; omega
    clear h hd hT hmb hb hok hc hs
    unfold planV
    go_enter Tryz.func125, Tryz.ntmps125
    go_wp2_with fail
    go_ret
    rw [HX.out]
    rw [← hw1]
    exact ⟨rfl, HD.out.1.gr0 HG.out, HD.out.2.mono (by omega), HG.out.of0⟩
end
end Go.Proofs.YtjbhallhmnahbaaGreat
