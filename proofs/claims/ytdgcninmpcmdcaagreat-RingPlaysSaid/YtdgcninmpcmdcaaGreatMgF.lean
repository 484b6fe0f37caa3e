/-
  MgF: SpG, SpH, SpI.
-/
import Derived.Test.YtdgcninmpcmdcaaGreatMgM
import Derived.Test.YtdgcninmpcmdcaaGreatMgH
import Derived.Test.YtdgcninmpcmdcaaGreatCrc
import Derived.Deep.CutBlock

/-
  Layer 5: Format.
-/
namespace Go.Proofs.YtdgcninmpcmdcaaGreat
open Go.RowKit

def zeroT : ByteArray := ⟨(catL [0, 0, 0, 0, 0, 0, 0, 0]).toArray⟩
theorem zeroT_size : zeroT.size = 64 := by
  show (catL _).toArray.size = 64
  rw [List.size_toArray, catL_length]; rfl
theorem zeroT_word {k : Nat} (h : k < 8) : wdL zeroT.data.toList k = 0 := by
  rcases (show k = 0 ∨ k = 1 ∨ k = 2 ∨ k = 3 ∨ k = 4 ∨ k = 5 ∨ k = 6 ∨ k = 7 by omega) with rfl | rfl | rfl | rfl | rfl | rfl | rfl | rfl <;> decide +kernel
/-- A device that is formatted, its first lines. -/
def fmtD (p : PlanZ) : Nat → DevS → DevS
  | 0, D => D
  | k + 1, D => (putE (fmtD p k D) (p.a + (k : Int)) zeroT).2
structure Zero (D : DevS) : Prop where
  calm : Calm D
  med : ∀ x, D.med x = 0
theorem zero_new (n : Nat) : Zero (newD n) := ⟨⟨rfl, rfl, fun _ => rfl⟩, fun _ => rfl⟩
theorem fmt_zero {p : PlanZ} {D : DevS} (h : Zero D) (ha : 0 ≤ p.a) : ∀ k : Nat, p.a + (k : Int) ≤ (D.n : Int) → Zero (fmtD p k D) ∧ (fmtD p k D).n = D.n ∧ (fmtD p k D).bad = D.bad
  | 0, _ => ⟨h, rfl, rfl⟩
  | k + 1, hk => by
    obtain ⟨h1, h2, h3⟩ := fmt_zero h ha k (by omega)
    obtain ⟨l, hl⟩ : ∃ l : Nat, p.a + (k : Int) = (l : Int) := ⟨(p.a + (k : Int)).toNat, by omega⟩
    obtain ⟨E, e1, e2⟩ := put_calm (l := l) h1.calm (by rw [h2]; omega) zeroT_size
    have he : fmtD p (k + 1) D = E := by show (putE (fmtD p k D) (p.a + (k : Int)) zeroT).2 = E; rw [hl, e1]
    rw [he]
    refine ⟨⟨e2.calm, fun x => ?_⟩, e2.n.trans h2, e2.bad.trans h3⟩
    rw [e2.med]
    split
    · rename_i hx
      exact zeroT_word (by omega)
    · exact h1.med x
theorem fmt_put {p : PlanZ} {D : DevS} (h : Zero D) (ha : 0 ≤ p.a) (k : Nat) (hk : p.a + (k : Int) < (D.n : Int)) : (putE (fmtD p k D) (p.a + (k : Int)) zeroT).1 = 0 := by
  obtain ⟨h1, h2, h3⟩ := fmt_zero h ha k (by omega)
  obtain ⟨l, hl⟩ : ∃ l : Nat, p.a + (k : Int) = (l : Int) := ⟨(p.a + (k : Int)).toNat, by omega⟩
  obtain ⟨E, e1, e2⟩ := put_calm (l := l) h1.calm (by rw [h2]; omega) zeroT_size
  rw [hl, e1]
theorem check_ok {p : PlanZ} {n : Int} (h : checkZ p n = 0) : okZ p = true ∧ p.a + sizeZ p ≤ n := by
  unfold checkZ at h
  by_cases hp : okZ p = true
  · rw [if_pos hp] at h
    refine ⟨hp, ?_⟩
    by_cases hn : n < p.a + sizeZ p
    · rw [if_pos hn] at h; omega
    · omega
  · rw [if_neg hp] at h; omega
section
variable {w : World} {a : DevA} {D : DevS} {p : PlanZ} {c : Nat}
theorem linesK {W : World} (h : DevIs W a D) : Calls Tryz.prog 60 #[.pointer (some ⟨a.bd, 0, none⟩)] W fun e w' => e = .returned (.int .i64 D.n) ∧ Below W.heap.size W w' :=
  (lines_any a D W h).mono (by rintro e w' ⟨rfl, rfl⟩; exact ⟨rfl, Below.refl _ _⟩)
theorem DevIs.kp {W : World} (h : DevIs w a D) (x : Kp w W) : DevIs W a D := h.gr0 (Gr.ofBelow x)
theorem format_nil (p : PlanZ) (w : World) : Calls Tryz.prog 68 #[.pointer none, planV p] w fun e w' => e = .returned (.int .i64 1) ∧ Gr [] w w' := by
  have HG := Lib.hid ((Gr.refl [] w).alloc (Obj.cells #[.int .i64 p.a, .int .i64 p.l, .int .i64 p.s] 116))
  unfold planV
  go_enter Tryz.func68, Tryz.ntmps68
  go_wp2_with fail
  go_ret
  exact ⟨rfl, HG.out⟩
set_option maxRecDepth 100000 in
set_option maxHeartbeats 8000000 in
theorem format_err (h : DevIs w a D) (hp : checkZ p (D.n : Int) ≠ 0) : Calls Tryz.prog 68 #[.pointer (some ⟨a.bd, 0, none⟩), planV p] w fun e w' => e = .returned (.int .i64 (checkZ p (D.n : Int))) ∧ Gr [] w w' := by
  obtain ⟨c0, c1, c2⟩ := plan_cells p w
  have HG := Lib.hid ((Gr.refl [] w).alloc (Obj.cells #[.int .i64 p.a, .int .i64 p.l, .int .i64 p.s] 116))
  obtain ⟨w1, hw1⟩ : ∃ w1, w1 = w.alloc (Obj.cells #[.int .i64 p.a, .int .i64 p.l, .int .i64 p.s] 116) := ⟨_, rfl⟩
  have HC := Lib.hid (fun W => show Calls Tryz.prog 107 #[.agg #[.int .i64 p.a, .int .i64 p.l, .int .i64 p.s], .int .i64 (D.n : Int)] W _ from check_any p (D.n : Int) W)
  obtain ⟨e, he⟩ : ∃ e, e = checkZ p (D.n : Int) := ⟨_, rfl⟩
  rw [← he] at HC hp ⊢
  have b1 : (e != 0) = true := by simpa using hp
  have HD := Lib.hid h
  clear h he hp
  unfold planV
  go_enter Tryz.func68, Tryz.ntmps68
  go_wp2_with fail
  rw [← hw1] at c0 c1 c2 HG ⊢
  clear hw1
  have k0 := kp_cell c0
  have k1 := kp_cell c1
  have k2 := kp_cell c2
  have hne := kp_ne w1
  have HD1 := Lib.hid (HD.out.gr0 HG.out)
  refine wp_region_kp (by kernel_rfl) (by kernel_rfl) ?_
  repeat (go_big_quiet_step ((rename_i x; first | exact kp_call x (linesK (HD1.out.kp x.h)) | exact kp_call x (HC.out _))))
  with_reducible refine wpQuiet_nil ?_
  rintro _ ⟨y, rfl⟩
  have HBy := Lib.hid (HG.out.nextB y.h)
  clear k0 k1 k2 hne
  generalize y.w = w3 at *
  clear y
  go_wp2_with fail
  go_ret
  exact ⟨rfl, HBy.out⟩
set_option maxRecDepth 100000 in
set_option maxHeartbeats 8000000 in
theorem format_ok (h : DevIs w a D) (hz : Zero D) (hb : Bd D c) (hc : c < 900000) (hp : checkZ p (D.n : Int) = 0) :
    Calls Tryz.prog 68 #[.pointer (some ⟨a.bd, 0, none⟩), planV p] w fun e w' => e = .returned (.int .i64 0) ∧ DevIs w' a (fmtD p (tabZ p + p.l).toNat D) ∧ Bd (fmtD p (tabZ p + p.l).toNat D) (c + 10 * (tabZ p + p.l).toNat) ∧ Gr a.all w w' := by
  obtain ⟨hok, hsz⟩ := check_ok hp
  obtain ⟨h1, h2, h3, h4, h5, h6⟩ := (okZ_iff p).1 hok
  have ht : 0 ≤ tabZ p ∧ tabZ p ≤ 8 := by unfold tabZ; omega
  have hs : sizeZ p = tabZ p + p.l + p.s := by unfold sizeZ; rw [if_pos hok]
  obtain ⟨L, hL⟩ : ∃ L : Nat, tabZ p + p.l = (L : Int) := ⟨(tabZ p + p.l).toNat, by omega⟩
  rw [hL, Int.toNat_natCast]
  have hLn : p.a + (L : Int) ≤ (D.n : Int) := by omega
  have hL2 : L ≤ 1034 := by omega
  obtain ⟨c0, c1, c2⟩ := plan_cells p w
  have HG := Lib.hid ((Gr.refl [] w).alloc (Obj.cells #[.int .i64 p.a, .int .i64 p.l, .int .i64 p.s] 116))
  obtain ⟨w1, hw1⟩ : ∃ w1, w1 = w.alloc (Obj.cells #[.int .i64 p.a, .int .i64 p.l, .int .i64 p.s] 116) := ⟨_, rfl⟩
  obtain ⟨pb, hpb⟩ : ∃ pb, pb = w.heap.size := ⟨_, rfl⟩
  rw [← hpb] at c0 c1 c2
  have hl : pb < w1.heap.size := by rw [hpb, hw1, World.size_alloc]; omega
  have HNP := Lib.hid (show pb ∉ a.all from fun q => by have := h.lt _ q; omega)
  have HC := Lib.hid (fun W => show Calls Tryz.prog 107 #[.agg #[.int .i64 p.a, .int .i64 p.l, .int .i64 p.s], .int .i64 (D.n : Int)] W _ from check_any p (D.n : Int) W)
  have HT := Lib.hid (fun W => show Calls Tryz.prog 111 #[.agg #[.int .i64 p.a, .int .i64 p.l, .int .i64 p.s]] W _ from table_any p hok W)
  have HTx := Lib.hid (fun W => text_any 0 0 0 0 0 0 0 0 (by decide) W)
  rw [hp] at HC
  obtain ⟨t, htt⟩ : ∃ t, t = tabZ p := ⟨_, rfl⟩
  rw [← htt] at HT hL ht
  have i1 : IntKind.i64.wrap (t + p.l) = t + p.l := IntWalk.i64_in _ (by omega)
  have HD := Lib.hid h
  have HF := Lib.hid (And.intro hz (And.intro hb (And.intro hLn h1)))
  have HL := Lib.hid hL
  have HA := Lib.hid h2
  clear h hp hz hb htt hok hsz hs h1 h2 h3 h4 h5 h6 ht hL hLn
  unfold planV
  go_enter Tryz.func68, Tryz.ntmps68
  go_wp2_with fail
  rw [← hw1] at c0 c1 c2 HG ⊢
  rw [← hpb]
  clear hw1 hpb
  have k0 := kp_cell c0
  have k1 := kp_cell c1
  have k2 := kp_cell c2
  have hne := kp_ne w1
  have HD1 := Lib.hid (HD.out.gr0 HG.out)
  refine wp_region_kp (by kernel_rfl) (by kernel_rfl) ?_
  repeat (go_big_quiet_step ((rename_i x; first | exact kp_call x (linesK (HD1.out.kp x.h)) | exact kp_call x (HC.out _))))
  with_reducible refine wpQuiet_nil ?_
  rintro _ ⟨y, rfl⟩
  have HG2 := Lib.hid (HG.out.nextB y.h)
  have HD2 := Lib.hid (HD1.out.kp y.h)
  replace c0 := k0 y
  replace c1 := k1 y
  replace c2 := k2 y
  clear k0 k1 k2 hne
  generalize y.w = w2 at *
  clear y
  go_wp2_with fail
  refine (HTx.out _).mono ?_
  rintro e w3 ⟨rfl, hb3⟩
  have hl2 : pb < w2.heap.size := World.block_lt_of_cell? w2 _ c0
  have HG3 := Lib.hid (HG2.out.nextB hb3)
  have HD3 := Lib.hid (HD2.out.gr0 (Gr.ofBelow hb3))
  replace c0 := (hb3.cell (p := ⟨pb, 0, none⟩) hl2).trans c0
  replace c1 := (hb3.cell (p := ⟨pb, 1, none⟩) hl2).trans c1
  replace c2 := (hb3.cell (p := ⟨pb, 2, none⟩) hl2).trans c2
  clear hb3 hl2 HC HTx HD1 HD2 HG HG2 hl
  obtain ⟨Z, hZ⟩ : ∃ Z : ByteArray, Z = ⟨(catL [0, 0, 0, 0, 0, 0, 0, 0]).toArray⟩ := ⟨_, rfl⟩
  have HZ := Lib.hid (show Z = zeroT from hZ)
  rw [← hZ]
  clear hZ
  have k0 := kp_cell c0
  have k1 := kp_cell c1
  have k2 := kp_cell c2
  have hne := kp_ne w3
  go_wp2_with fail
  refine wp_region_kp (by kernel_rfl) (by kernel_rfl) ?_
  repeat (go_big_quiet_step ((rename_i x; exact kp_call x (HT.out _))))
  with_reducible refine wpQuiet_nil ?_
  rintro _ ⟨y, rfl⟩
  have HG4 := Lib.hid (HG3.out.nextB y.h)
  have HD4 := Lib.hid (HD3.out.kp y.h)
  replace c0 := k0 y
  clear k0 k1 k2 hne HG3 HD3 c1 c2
  generalize y.w = w4 at *
  clear y
  rw [HL.out]
  clear i1
  go_wp2_with fail
  go_loopw [25] (fun k wr => ∃ j : Nat, j ≤ L ∧ k = .int .i64 j ∧ DevIs wr a (fmtD p j D) ∧ Bd (fmtD p j D) (c + 10 * j) ∧ wr.cell? ⟨pb, 0, none⟩ = some (.int .i64 p.a) ∧ Gr a.all w wr) (fun k _ => L - (intOf k).toNat)
  case atStart => exact ⟨0, by omega, rfl, HD4.out, HF.out.2.1, c0, HG4.out.of0⟩
  case round =>
    obtain ⟨j, hj, rfl, hd', hb', c0', g'⟩ := hrel
    have HH := Lib.hid (And.intro hd' (And.intro hb' g'))
    clear hd' hb' g' c0
    by_cases hjL : j < L
    · have ij : (j : Int) < (L : Int) := by omega
      have i2 : IntKind.i64.wrap (p.a + (j : Int)) = p.a + (j : Int) := IntWalk.i64_in _ (by have := HA.out; have := HF.out.2.2.2; omega)
      have HP := Lib.hid (lput_any a (fmtD p j D) (p.a + (j : Int)) Z (c + 10 * j) wr HH.out.1 HH.out.2.1 (by omega) (by rw [HZ.out, zeroT_size]; unfold maxLen; omega))
      rw [HZ.out, fmt_put HF.out.1 HF.out.2.2.2 j (by have := HF.out.2.2.1; omega), ← HZ.out] at HP
      go_wp2_with fail
      refine HP.out.mono ?_
      rintro e w5 ⟨rfl, hd5, hb5, g5⟩
      have H5 := Lib.hid (And.intro hd5 (And.intro hb5 (And.intro ((World.cell?_of_block (w := wr) (g5.block pb (World.block_lt_of_cell? wr _ c0') HNP.out)).trans c0') (HH.out.2.2.trans g5))))
      clear hd5 hb5 g5
      go_wp2_with fail
      go_roundw
      case rel => exact ⟨j + 1, by omega, by go_num, by have := H5.out.1; rw [HZ.out] at this; exact this, by have := H5.out.2.1; rw [HZ.out] at this; exact this.mono (by omega), H5.out.2.2.1, H5.out.2.2.2⟩
      case measure => simp [intOf]; omega
    · obtain rfl : j = L := by omega
      have ij : ¬ ((j : Int) < (j : Int)) := by omega
      go_wp2_with fail
      go_ret
      exact ⟨rfl, HH.out⟩
end
end Go.Proofs.YtdgcninmpcmdcaaGreat

/-
  Layer 5: note.
-/
namespace Go.Proofs.YtdgcninmpcmdcaaGreat
open Go.RowKit

/-- What the table's word of a spare says. -/
def noteBad (p : PlanZ) (k v : Nat) (B : BkS) : Prop := guardN v ≠ v ∨ B.used < k ∨ low48 v = 0 ∨ (p.l < (low48 v : Int) ∧ low48 v ≠ 65535)
instance (p : PlanZ) (k v : Nat) (B : BkS) : Decidable (noteBad p k v B) := by unfold noteBad; infer_instance
def noteB (k v : Nat) (B : BkS) : BkS := ⟨B.used + 1, if low48 v = 65535 then B.wh else updZ B.wh ((low48 v : Int) - 1) (some k)⟩
def noteS (p : PlanZ) (k v : Nat) (B : BkS) : Int × BkS := if v = 0 then (0, B) else if noteBad p k v B then (5, B) else (0, noteB k v B)
theorem low48_lt (v : Nat) : low48 v < 281474976710656 := by unfold low48; omega
section
variable {w : World} {q : BkA} {a : DevA} {p : PlanZ} {B : BkS} {m : Nat}
theorem note_zero (k : Nat) : Calls Tryz.prog 109 #[.pointer (some ⟨q.b, 0, none⟩), .int .i64 (k : Int), .int .u64 0] w fun e w' => e = .returned (.int .i64 0) ∧ w' = w := by
  go_enter Tryz.func109, Tryz.ntmps109
  go_wp2_with fail
  go_ret
  exact ⟨rfl, rfl⟩
set_option maxRecDepth 100000 in
set_option maxHeartbeats 8000000 in
theorem note_bad (k v : Nat) (h : BkIs w q a p B m) (h0 : v ≠ 0) (hv : v < 18446744073709551616) (hb : noteBad p k v B) :
    Calls Tryz.prog 109 #[.pointer (some ⟨q.b, 0, none⟩), .int .i64 (k : Int), .int .u64 (v : Int)] w fun e w' => e = .returned (.int .i64 5) ∧ Gr [] w w' := by
  have d0 : ((v : Int) == 0) = false := by simpa using h0
  have H := Lib.hid h
  obtain ⟨h1, h2, h3, h4, h5, h6⟩ := (okZ_iff _).1 h.ok
  have i1 : IntKind.u64.wrap p.l = p.l := IntWalk.u64_in _ (by omega)
  by_cases hg : guardN v = v
  · have HGd := Lib.hid (guarded_yes v w hv hg)
    obtain ⟨n, hn⟩ : ∃ n, n = low48 v := ⟨_, rfl⟩
    have hnl : n < 281474976710656 := hn ▸ low48_lt v
    rw [← hn] at HGd
    have hb : B.used < k ∨ n = 0 ∨ (p.l < (n : Int) ∧ n ≠ 65535) := by
      rcases hb with hb | hb
      · exact absurd hg hb
      · rw [← hn] at hb; exact hb
    clear hn hg h h0
    by_cases hu : B.used < k
    · have u1 : ((B.used : Int) < (k : Int)) := by omega
      clear hb
      go_enter Tryz.func109, Tryz.ntmps109
      go_wp2_with fail
      refine HGd.out.mono ?_
      rintro e w1 ⟨rfl, hb1⟩
      have HG1 := Lib.hid (Gr.ofBelow (cs := []) hb1)
      have c4 := (H.out.gr0 HG1.out).c4
      clear hb1
      go_wp2_with fail
      go_ret
      exact ⟨rfl, HG1.out⟩
    · have u1 : ¬ ((B.used : Int) < (k : Int)) := by omega
      by_cases hz : n = 0
      · subst hz
        clear hb
        go_enter Tryz.func109, Tryz.ntmps109
        go_wp2_with fail
        refine HGd.out.mono ?_
        rintro e w1 ⟨rfl, hb1⟩
        have HG1 := Lib.hid (Gr.ofBelow (cs := []) hb1)
        have c4 := (H.out.gr0 HG1.out).c4
        clear hb1
        go_wp2_with fail
        go_ret
        exact ⟨rfl, HG1.out⟩
      · have z1 : ((n : Int) == 0) = false := by simpa using hz
        obtain ⟨b1, b2⟩ : p.l < (n : Int) ∧ n ≠ 65535 := by rcases hb with hb | hb | hb; exact absurd hb hu; exact absurd hb hz; exact hb
        have b3 : ((n : Int) != 65535) = true := by simp; omega
        clear hb hz b2
        go_enter Tryz.func109, Tryz.ntmps109
        go_wp2_with fail
        refine HGd.out.mono ?_
        rintro e w1 ⟨rfl, hb1⟩
        have HG1 := Lib.hid (Gr.ofBelow (cs := []) hb1)
        have c4 := (H.out.gr0 HG1.out).c4
        have c2 := (H.out.gr0 HG1.out).c2
        clear hb1
        go_wp2_with fail
        go_ret
        exact ⟨rfl, HG1.out⟩
  · have HGd := Lib.hid (guarded_no v w hv hg)
    clear hg h hb h0
    go_enter Tryz.func109, Tryz.ntmps109
    go_wp2_with fail
    refine HGd.out.mono ?_
    rintro e w1 ⟨rfl, hb1⟩
    have HG1 := Lib.hid (Gr.ofBelow (cs := []) hb1)
    clear hb1
    go_wp2_with fail
    go_ret
    exact ⟨rfl, HG1.out⟩
end
end Go.Proofs.YtdgcninmpcmdcaaGreat

/-
  Layer 5: Open.
-/
namespace Go.Proofs.YtdgcninmpcmdcaaGreat
open Go.RowKit

theorem open_nil (p : PlanZ) (w : World) : Calls Tryz.prog 61 #[.pointer none, planV p] w fun e w' => e = .returned (.tuple #[.pointer none, .int .i64 1]) ∧ Gr [] w w' := by
  have HG := Lib.hid ((Gr.refl [] w).alloc (Obj.cells #[.int .i64 p.a, .int .i64 p.l, .int .i64 p.s] 116))
  unfold planV
  go_enter Tryz.func61, Tryz.ntmps61
  go_wp2_with fail
  go_ret2
  exact ⟨rfl, HG.out⟩
section
variable {w : World} {a : DevA} {D : DevS} {p : PlanZ} {c : Nat}
set_option maxRecDepth 100000 in
set_option maxHeartbeats 8000000 in
theorem open_err (h : DevIs w a D) (hp : checkZ p (D.n : Int) ≠ 0) : Calls Tryz.prog 61 #[.pointer (some ⟨a.bd, 0, none⟩), planV p] w fun e w' => e = .returned (.tuple #[.pointer none, .int .i64 (checkZ p (D.n : Int))]) ∧ Gr [] w w' := by
  obtain ⟨c0, c1, c2⟩ := plan_cells p w
  have HG := Lib.hid ((Gr.refl [] w).alloc (Obj.cells #[.int .i64 p.a, .int .i64 p.l, .int .i64 p.s] 116))
  obtain ⟨w1, hw1⟩ : ∃ w1, w1 = w.alloc (Obj.cells #[.int .i64 p.a, .int .i64 p.l, .int .i64 p.s] 116) := ⟨_, rfl⟩
  have HC := Lib.hid (fun W => show Calls Tryz.prog 107 #[.agg #[.int .i64 p.a, .int .i64 p.l, .int .i64 p.s], .int .i64 (D.n : Int)] W _ from check_any p (D.n : Int) W)
  obtain ⟨e, he⟩ : ∃ e, e = checkZ p (D.n : Int) := ⟨_, rfl⟩
  rw [← he] at HC hp ⊢
  have b1 : (e != 0) = true := by simpa using hp
  have HD := Lib.hid h
  clear h he hp
  unfold planV
  go_enter Tryz.func61, Tryz.ntmps61
  go_wp2_with fail
  rw [← hw1] at c0 c1 c2 HG ⊢
  clear hw1
  have k0 := kp_cell c0
  have k1 := kp_cell c1
  have k2 := kp_cell c2
  have hne := kp_ne w1
  have HD1 := Lib.hid (HD.out.gr0 HG.out)
  refine wp_region_kp (by kernel_rfl) (by kernel_rfl) ?_
  repeat (go_big_quiet_step ((rename_i x; first | exact kp_call x (linesK (HD1.out.kp x.h)) | exact kp_call x (HC.out _))))
  with_reducible refine wpQuiet_nil ?_
  rintro _ ⟨y, rfl⟩
  have HBy := Lib.hid (HG.out.nextB y.h)
  clear k0 k1 k2 hne
  generalize y.w = w3 at *
  clear y
  go_wp2_with fail
  go_ret2
  exact ⟨rfl, HBy.out⟩
set_option maxRecDepth 100000 in
set_option maxHeartbeats 8000000 in
/-- A bank whose table is empty. -/
theorem open_zero (h : DevIs w a D) (ho : D.off = false) (hp : checkZ p (D.n : Int) = 0) (hz : ∀ k : Nat, (k : Int) < p.s → loadV D (8 * p.a.toNat + k) = 0) :
    Calls Tryz.prog 61 #[.pointer (some ⟨a.bd, 0, none⟩), planV p] w fun e w' => ∃ q : BkA, e = .returned (.tuple #[.pointer (some ⟨q.b, 0, none⟩), .int .i64 0]) ∧ BkIs w' q a p ⟨0, fun _ => none⟩ 0 ∧ (∀ b ∈ q.all, w.heap.size ≤ b) ∧ Gr [] w w' := by
  obtain ⟨hok, hsz⟩ := check_ok hp
  obtain ⟨h1, h2, h3, h4, h5, h6⟩ := (okZ_iff p).1 hok
  have hs : sizeZ p = tabZ p + p.l + p.s := by unfold sizeZ; rw [if_pos hok]
  have ht : 8 * tabZ p ≥ p.s := by unfold tabZ; omega
  obtain ⟨c0, c1, c2⟩ := plan_cells p w
  have HG := Lib.hid ((Gr.refl [] w).alloc (Obj.cells #[.int .i64 p.a, .int .i64 p.l, .int .i64 p.s] 116))
  obtain ⟨w1, hw1⟩ : ∃ w1, w1 = w.alloc (Obj.cells #[.int .i64 p.a, .int .i64 p.l, .int .i64 p.s] 116) := ⟨_, rfl⟩
  obtain ⟨pb, hpb⟩ : ∃ pb, pb = w.heap.size := ⟨_, rfl⟩
  rw [← hpb] at c0 c1 c2
  have HC := Lib.hid (fun W => show Calls Tryz.prog 107 #[.agg #[.int .i64 p.a, .int .i64 p.l, .int .i64 p.s], .int .i64 (D.n : Int)] W _ from check_any p (D.n : Int) W)
  rw [hp] at HC
  obtain ⟨aN, haN⟩ : ∃ aN : Nat, p.a = (aN : Int) := ⟨p.a.toNat, by omega⟩
  obtain ⟨S, hS⟩ : ∃ S : Nat, p.s = (S : Int) := ⟨p.s.toNat, by omega⟩
  have hnI : D.n ≤ 8192 := h.ok.hi
  have HLd := Lib.hid (fun (k : Nat) (hk : k < S) W (hW : DevIs W a D) => show Calls Tryz.prog 108 #[.pointer (some ⟨a.bd, 0, none⟩), .int .i64 (p.a * 8 + (k : Int))] W fun e w' => e = .returned (.tuple #[.int .u64 0, .int .i64 0]) ∧ Gr [] W w' by
    have r := load_ok a D (8 * aN + k) W hW ho (by omega)
    rw [show ((8 * aN + k : Nat) : Int) = p.a * 8 + (k : Int) by omega, show 8 * aN + k = 8 * p.a.toNat + k by omega, hz k (by omega)] at r
    exact r)
  have HMul := Lib.hid (show ∀ k : Nat, k < S → IntKind.i64.wrap (p.a * 8) = p.a * 8 ∧ IntKind.i64.wrap (p.a * 8 + (k : Int)) = p.a * 8 + (k : Int) from fun k hk => ⟨IntWalk.i64_in _ (by omega), IntWalk.i64_in _ (by omega)⟩)
  have HD := Lib.hid h
  have HS := Lib.hid hS
  have hS64 : S ≤ 64 := by omega
  have HO := Lib.hid (And.intro hok (show 0 ≤ p.s from h5))
  have HPB := Lib.hid (show w.heap.size ≤ pb ∧ pb < w1.heap.size by rw [hpb, hw1, World.size_alloc]; omega)
  clear h ho hp hz hok hsz h1 h2 h3 h4 h5 h6 hs ht hnI haN hS
  unfold planV
  go_enter Tryz.func61, Tryz.ntmps61
  go_wp2_with fail
  rw [← hw1] at c0 c1 c2 HG ⊢
  rw [← hpb]
  clear hw1 hpb
  have k0 := kp_cell c0
  have k1 := kp_cell c1
  have k2 := kp_cell c2
  have hne := kp_ne w1
  have HD1 := Lib.hid (HD.out.gr0 HG.out)
  refine wp_region_kp (by kernel_rfl) (by kernel_rfl) ?_
  repeat (go_big_quiet_step ((rename_i x; first | exact kp_call x (linesK (HD1.out.kp x.h)) | exact kp_call x (HC.out _))))
  with_reducible refine wpQuiet_nil ?_
  rintro _ ⟨y, rfl⟩
  have HG2 := Lib.hid (HG.out.nextB y.h)
  have HD2 := Lib.hid (HD1.out.kp y.h)
  have HP2 := Lib.hid (show pb < y.w.heap.size by have := y.h.size; have := HPB.out; omega)
  replace c0 := k0 y
  replace c1 := k1 y
  replace c2 := k2 y
  clear k0 k1 k2 hne HC HD1 HG
  generalize y.w = w2 at *
  clear y
  have hmm := @run_makeMap Tryz.prog
  go_upto_region 7 with fail
  have HQ : ∃ q : BkA, q.b = w2.heap.size + 1 ∧ BkIs ((w2.alloc (Obj.map #[] 0)).alloc (Obj.cells #[.pointer (some ⟨a.bd, 0, none⟩), .int .i64 p.a, .int .i64 p.l, .int .i64 p.s, .int .i64 0, .map (some w2.heap.size)] 136)) q a p ⟨0, fun _ => none⟩ 0 ∧ ∀ b ∈ q.all, w.heap.size ≤ b := by
    refine ⟨⟨w2.heap.size + 1, w2.heap.size⟩, rfl, ⟨?_, ?_, HO.out.1, HO.out.2, (fun x k e => by cases e), by show ¬ (w2.heap.size + 1 = w2.heap.size); omega, ?_⟩, ?_⟩
    · have := Holds.new (w2.alloc (Obj.map #[] 0)) #[.pointer (some ⟨a.bd, 0, none⟩), .int .i64 p.a, .int .i64 p.l, .int .i64 p.s, .int .i64 0, .map (some w2.heap.size)] 136
      rw [World.size_alloc] at this
      exact this
    · exact (MapZ.made w2).gr0 ((Gr.refl [] _).alloc _)
    · intro b hb q
      have := HD2.out.lt b q
      simp only [BkA.all, List.mem_cons, List.not_mem_nil, or_false] at hb
      omega
    · intro b hb
      have := HP2.out
      have := HPB.out
      simp only [BkA.all, List.mem_cons, List.not_mem_nil, or_false] at hb
      omega
  obtain ⟨q, hq, hbk, hqs⟩ := HQ
  have HG6 := Lib.hid ((HG2.out.alloc (Obj.map #[] 0)).alloc (Obj.cells #[.pointer (some ⟨a.bd, 0, none⟩), .int .i64 p.a, .int .i64 p.l, .int .i64 p.s, .int .i64 0, .map (some w2.heap.size)] 136))
  have hg6 : Gr [] w2 ((w2.alloc (Obj.map #[] 0)).alloc (Obj.cells #[.pointer (some ⟨a.bd, 0, none⟩), .int .i64 p.a, .int .i64 p.l, .int .i64 p.s, .int .i64 0, .map (some w2.heap.size)] 136)) := ((Gr.refl [] w2).alloc _).alloc _
  replace c0 := (hg6.cell0 (o := 0) HP2.out).trans c0
  replace c2 := (hg6.cell0 (o := 2) HP2.out).trans c2
  have HD6 := Lib.hid (HD2.out.gr0 hg6)
  have HP6 := Lib.hid (Nat.lt_of_lt_of_le HP2.out hg6.size)
  have HBK := Lib.hid (And.intro hbk hqs)
  rw [← hq]
  clear hq hbk hqs hg6 HG2 HD2 HP2 hmm c1
  generalize ((w2.alloc (Obj.map #[] 0)).alloc (Obj.cells #[.pointer (some ⟨a.bd, 0, none⟩), .int .i64 p.a, .int .i64 p.l, .int .i64 p.s, .int .i64 0, .map (some w2.heap.size)] 136)) = w6 at *
  go_wp2_with fail
  rw [HS.out]
  go_loopw [28] (fun k wr => ∃ j : Nat, j ≤ S ∧ k = .int .i64 j ∧ Gr [] w6 wr) (fun k _ => S - (intOf k).toNat)
  case atStart => exact ⟨0, by omega, rfl, Gr.refl _ _⟩
  case round =>
    obtain ⟨j, hj, rfl, g'⟩ := hrel
    have HH := Lib.hid g'
    have c0 := (g'.cell0 (o := 0) HP6.out).trans c0
    clear g'
    by_cases hjL : j < S
    · have ij : (j : Int) < (S : Int) := by omega
      obtain ⟨i1, i2⟩ := HMul.out j hjL
      have HLj := Lib.hid (HLd.out j hjL wr (HD6.out.gr0 HH.out))
      go_wp2_with fail
      refine HLj.out.mono ?_
      rintro e w7 ⟨rfl, g7⟩
      have HH7 := Lib.hid (HH.out.trans g7)
      clear g7
      go_wp2_with fail
      refine (note_zero j).mono ?_
      rintro e w8 ⟨rfl, rfl⟩
      go_wp2_with fail
      go_roundw
      case rel => exact ⟨j + 1, by omega, by go_num, HH7.out⟩
      case measure => simp [intOf]; omega
    · obtain rfl : j = S := by omega
      have ij : ¬ ((j : Int) < (j : Int)) := by omega
      go_wp2_with fail
      go_ret2
      exact ⟨q, rfl, HBK.out.1.gr0 HH.out, HBK.out.2, HG6.out.trans HH.out⟩
end
end Go.Proofs.YtdgcninmpcmdcaaGreat
