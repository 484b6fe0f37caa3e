/-
  SkBi: HtN, HtO, HuH.
-/
import Derived.Test.YtifekejcbhllpaaGreatSkBh

set_option linter.unusedVariables false

/-
  Layer 10: load.
-/
namespace Go.Proofs.YtifekejcbhllpaaGreat
open Go.RowKit
set_option linter.unusedVariables false

section
variable {w0 w w' wr : World} {A : FlA} {a : DevA} {C : CfgZ} {F : Nat → Nat → Nat} {V : FlV} {c : Nat → Nat} {N lim pb hb tb : Nat} {fr mv : Nat → Nat}
theorem get_at (T : ByteArray) (hT : T.size = 64) (k : Nat) (hk : k < 8) (W : World) : Calls Tryz.prog 16 #[.string (T.extract (8 * k) T.size)] W fun e w' => e = .returned (.int .u64 ((wdL T.data.toList k : Nat) : Int)) ∧ W = w' := by
  have hl : T.data.toList.length = 64 := by rw [← hT]; rfl
  have he : (T.extract (8 * k) T.size).data.toList.take 8 = (T.data.toList.drop (8 * k)).take 8 := by
    rw [ByteArray.data_extract, Array.toList_extract, List.extract_eq_take_drop, hT, List.take_take, Nat.min_eq_left (by omega)]
  refine (get_any (T.extract (8 * k) T.size) W (by rw [ByteArray.size_extract]; unfold maxLen; omega)).mono ?_
  rintro e w' ⟨rfl, rfl⟩
  rw [he]
  exact ⟨rfl, rfl⟩
set_option maxRecDepth 100000 in
set_option maxHeartbeats 16000000 in
theorem hload_any (hp : 0 < pgC C) (ht : TbO C F fr mv) (h : LdI w A a C F V c N lim pb hb tb fr mv 0 (.slice none 0 0) w) :
    Calls Tryz.prog 70 #[.pointer (some ⟨pb, 0, none⟩)] w fun e w' => ∃ v, e = .returned (.int .i64 0) ∧ LdI w A a C F V c N lim pb hb tb fr mv (pgC C) v w' := by
  have hC := h.fl.ok
  obtain ⟨n1, n2, n3, n4, n5, n6⟩ := pg_nums hC hp
  obtain ⟨G, hG⟩ : ∃ G, G = pgC C := ⟨_, rfl⟩
  obtain ⟨H, hH⟩ : ∃ H, H = frmC C := ⟨_, rfl⟩
  have HN := Lib.hid (And.intro hG (And.intro hH (And.intro n1 (And.intro n2 (And.intro n5 n3)))))
  have HT := Lib.hid ht
  have H0 := Lib.hid h
  have hG7 : G ≤ 2048 := by omega
  have hH7 : H ≤ 2048 := by omega
  have c1 : w.cell? ⟨pb, 1, none⟩ = some (.int .i64 (G : Int)) := by rw [hG]; exact h.head.cell 1
  obtain ⟨ip, hip, hpz0, hpz1, hpz2⟩ := info_parts infoPlace10
  have HIP := Lib.hid (And.intro hip (And.intro hpz0 (And.intro hpz1 hpz2)))
  clear n1 n2 n3 n4 n5 n6 hG hH ht h hip hpz0 hpz1 hpz2
  go_enter Tryz.func70, Tryz.ntmps70
  go_wp2_with fail
  clear c1
  go_loopw [15] (fun iv wr => ∃ (n : Nat) (v : Value), iv = .int .i64 (n : Int) ∧ n ≤ G ∧ Hid (LdI w A a C F V c N lim pb hb tb fr mv n v wr)) (fun iv _ => G - (intOf iv).toNat)
  case atStart => exact ⟨0, _, rfl, by omega, H0⟩
  case round =>
    clear H0
    obtain ⟨n, v, rfl, hn, HS⟩ := hrel
    by_cases hnG : n < G
    · as_aux_lemma =>
        have inG : (n : Int) < (G : Int) := by omega
        have HI := Lib.hid hnG
        have hng : n < pgC C := by rw [← HN.out.1]; exact hnG
        have hl8 : n / 8 < cR C * cL C := by have := HN.out; omega
        have HRd := Lib.hid (HS.out.fl.fl.read (n / 8) hl8)
        obtain ⟨sz, wd⟩ := HS.out.fl.fl.size (n / 8) hl8
        obtain ⟨T, hT⟩ : ∃ T, T = lnF F (n / 8) := ⟨_, rfl⟩
        rw [← hT] at HRd sz wd
        have hk8 : n % 8 < 8 := Nat.mod_lt _ (by omega)
        have HGt := Lib.hid (fun W => get_at T sz (n % 8) hk8 W)
        rw [wd (n % 8) hk8, HT.out.tab n hng] at HGt
        obtain ⟨lt1, lt2⟩ := HT.out.lt n hng
        have mvn := HT.out.mv n hng
        have hH7' : fr n < 65536 := by have := HN.out; omega
        have key48 : mv n * 65536 + fr n < 281474976710656 := by omega
        have HGd := Lib.hid (fun W => guarded_yes (guardN (mv n * 65536 + fr n)) W (guardN_lt _ (by omega)) (guard_guard key48))
        rw [low_guard key48] at HGd
        have HFa := Lib.hid (fun W => field_any (mv n * 65536 + fr n) 0 16 W (by omega) (by omega) (by omega))
        have HFb := Lib.hid (fun W => field_any (mv n * 65536 + fr n) 16 32 W (by omega) (by omega) (by omega))
        rw [f_a, show (mv n * 65536 + fr n) % 65536 = fr n by omega] at HFa
        rw [f_p, show (mv n * 65536 + fr n) / 65536 % 4294967296 = mv n by omega] at HFb
        obtain ⟨cur, tk, t1, t2, t3⟩ := HS.out.tks
        have tkf : tk (fr n) = false := by
          cases e : tk (fr n) with
          | false => rfl
          | true =>
            rcases (t3 _ lt2).1 e with q | ⟨g, hg, q⟩
            · omega
            · exact absurd (HT.out.inj g n (by omega) hng q) (by omega)
        have HTK := Lib.hid (fun W (g : Gr [] wr W) => show W.cell? ⟨pb, 7, none⟩ = some (.slice (some ⟨tb, 0, none⟩) (frmC C) (frmC C)) ∧ W.cell? ⟨tb, fr n, none⟩ = some (.bool false) ∧ W.frozen? ⟨tb, fr n, none⟩ = false from ⟨(HS.out.gr0 g).head.cell 7, ((t1.gr0 g).cell (fr n)).trans ((t2 _ lt2).trans (by rw [tkf])), (t1.gr0 g).frozen (fr n)⟩)
        rw [← HN.out.2.1] at HTK
        have c0 : wr.cell? ⟨pb, 0, none⟩ = some (.pointer (some ⟨A.fb, 0, none⟩)) := HS.out.head.cell 0
        have htake := Lib.hid (fun W (g : Gr [] wr W) => (HS.out.gr0 g).take)
        generalize guardN (mv n * 65536 + fr n) = GK at *
        generalize mv n * 65536 + fr n = KK at *
        obtain ⟨f, hf⟩ : ∃ f, f = fr n := ⟨_, rfl⟩
        obtain ⟨m, hm⟩ : ∃ m, m = mv n := ⟨_, rfl⟩
        rw [← hf] at HFa HTK htake lt2
        rw [← hm] at HFb
        have HFM := Lib.hid (And.intro hf hm)
        have e1 : (n : Int).tdiv 8 = ((n / 8 : Nat) : Int) := (Int.ofNat_tdiv n 8).symm
        have e2 : (n : Int).tmod 8 = ((n % 8 : Nat) : Int) := (Int.ofNat_tmod n 8).symm
        obtain ⟨l, hl⟩ : ∃ l, l = n / 8 := ⟨_, rfl⟩
        obtain ⟨k, hk⟩ : ∃ k, k = n % 8 := ⟨_, rfl⟩
        obtain ⟨k64, hk64⟩ : ∃ x, x = k * 64 := ⟨_, rfl⟩
        obtain ⟨k8, hk8'⟩ : ∃ x, x = 8 * k := ⟨_, rfl⟩
        rw [← hl] at e1 HRd
        rw [← hk] at e2 HGt hk8
        rw [← hk8'] at HGt
        have q1 : IntKind.i64.wrap (l : Int) = (l : Int) := IntWalk.i64_in _ (by omega)
        have q2 : IntKind.i64.wrap (k : Int) = (k : Int) := IntWalk.i64_in _ (by omega)
        have q3 : IntKind.i64.wrap ((k : Int) * 64) = (k64 : Int) := by rw [show (k : Int) * 64 = (k64 : Int) by omega]; exact IntWalk.i64_in _ (by omega)
        have q4 : (k64 : Int).tdiv 8 = (k8 : Int) := by rw [Int.tdiv_eq_ediv_of_nonneg (by omega)]; omega
        have q5 : IntKind.i64.wrap (k8 : Int) = (k8 : Int) := IntWalk.i64_in _ (by omega)
        have q6 : IntKind.i64.wrap (f : Int) = (f : Int) := IntWalk.i64_in _ (by omega)
        have q7 : IntKind.u32.wrap (m : Int) = (m : Int) := by rw [IntKind.wrap_u32]; omega
        have sz0 : k8 ≤ T.size := by omega
        have sz1 : T.size ≤ 9223372036854775807 := by omega
        have f1 : (f : Int) < (H : Int) := by have := HN.out.2.1; omega
        have f0 : (0 : Int) ≤ (f : Int) := by omega
        have f2 : ¬ (H : Int) ≤ (f : Int) := by omega
        have f3 : decide (H ≤ f) = false := decide_eq_false (by omega)
        clear hT wd lt1 mvn key48 t1 t2 t3 tkf hf hm hl hk hk64 hk8' hk8 hl8 hng lt2 hH7' sz
        go_wp2_with fail
        refine HRd.out.mono ?_
        rintro e w2 ⟨rfl, g2⟩
        have HG2 := Lib.hid g2
        clear g2 c0
        go_wp2_with fail
        refine (HGt.out _).mono ?_
        rintro e w3 ⟨rfl, rfl⟩
        go_wp2_with fail
        refine (HGd.out _).mono ?_
        rintro e w4 ⟨rfl, b4⟩
        have HG4 := Lib.hid (HG2.out.trans (Gr.ofBelow (cs := []) b4))
        clear b4 HG2
        go_wp2_with fail
        refine (HFa.out _).mono ?_
        rintro e w5 ⟨rfl, rfl⟩
        obtain ⟨k7, kt, kz⟩ := HTK.out _ HG4.out
        go_wp2_with fail
        have H5 := Lib.hid (htake.out _ HG4.out)
        clear kt kz k7 HG4 HTK HGt HGd HFa HRd
        generalize w4.setCell ⟨tb, f, none⟩ (.bool true) = w6 at *
        obtain ⟨ao, cap, hv⟩ := own_form9 H5.out.own
        subst hv
        have s0 : w6.cell? ⟨pb, 5, none⟩ = some (.slice ao n cap) := H5.out.head.cell 5
        have s0d : w6.drew.cell? ⟨pb, 5, none⟩ = some (.slice ao n cap) := H5.out.head.cell 5
        have s0a : (w6.drew.alloc (Obj.cells #[.int .i64 (f : Int), .int .u32 (m : Int)] 97)).cell? ⟨pb, 5, none⟩ = some (.slice ao n cap) := (H5.out.head.gr0 (((Gr.refl [] w6).drew).alloc _)).cell 5
        have s0b : (w6.alloc (Obj.cells #[.int .i64 (f : Int), .int .u32 (m : Int)] 97)).cell? ⟨pb, 5, none⟩ = some (.slice ao n cap) := (H5.out.head.gr0 ((Gr.refl [] w6).alloc _)).cell 5
        go_region_law ((first
          | (go_simp; go_at_call 101; (with_reducible refine (HFb.out _).mono ?_); rintro rr w5 ⟨rfl, rfl⟩)
          | (have hT3 := H5.out.own.alloc (Obj.cells #[.int .i64 (f : Int), .int .u32 (m : Int)] 97); have hn3 := World.news_of_block (Holds.new w6 #[.int .i64 (f : Int), .int .u32 (m : Int)] 97); have hbs : w.heap.size ≤ (w6.alloc (Obj.cells #[.int .i64 (f : Int), .int .u32 (m : Int)] 97)).heap.size := (by have := H5.out.gr.size; rw [World.size_alloc]; omega); refine step_append_lies _ rfl _ _ 100 rfl w.heap.size 97 ip _ 2 16 Tryz.underlying100 HIP.out.1 HIP.out.2.1 HIP.out.2.2.1 HIP.out.2.2.2 rfl (by decide) (.slice ao n cap) n (plL fr mv n) rfl hT3 ⟨w6.heap.size, 0, none⟩ 1 1 [.int .i64 (f : Int), .int .u32 (m : Int)] rfl rfl hn3 (one_spot10 _ _) Nat.one_pos (by unfold maxLen; omega) (by omega) hbs _ rfl ?_; intro g6 cp6 w7 hown6 hgrow6 hat6 hlt6; have gA := ((Gr.refl [] w6).alloc (Obj.cells #[.int .i64 (f : Int), .int .u32 (m : Int)] 97)).drew; have hlr : ∀ b, (Value.slice ao n cap).ownBlock = some b → w.heap.size ≤ b := (fun b e => (H5.out.own.lt b e).1); have hd7 := (H5.out.head.gr0 gA).gr (gr_grown9 hgrow6) (fun e => by have h1 := hlr pb (by simpa using e); have h2 := H5.out.lo.1; omega); have s7 : w7.cell? ⟨pb, 5, none⟩ = some (.slice ao n cap) := hd7.cell 5; have f7 := hd7.frozen 5; have HR7 := Lib.hid (H5.out.snoc gA (by rw [← HFM.out.1, ← HFM.out.2]; exact hown6) hgrow6); clear hown6 hgrow6 hat6 hlt6 gA hlr hd7 hT3 hn3 hbs)))
        all_goals
          go_wp2_with fail
          go_roundw
          case rel => exact ⟨n + 1, _, by go_num, HI.out, HR7⟩
          case measure => simp [intOf]; omega
    · obtain rfl : n = G := by omega
      have ij : ¬ ((n : Int) < (n : Int)) := by omega
      clear hnG hn
      go_wp2_with fail
      go_ret
      have e := HN.out.1
      rw [← e]
      exact ⟨rfl, v, HS.out⟩
end
end Go.Proofs.YtifekejcbhllpaaGreat

/-
  Layer 10: Open.
-/
namespace Go.Proofs.YtifekejcbhllpaaGreat
open Go.RowKit
set_option linter.unusedVariables false

theorem infoI10 : (Tryz.prog.info? 3).map (fun i => (i.zero, i.size, i.bytes)) = some (some (.int .i64 0), 1, 8) := by kernel_rfl
theorem infoB10 : (Tryz.prog.info? 4).map (fun i => (i.zero, i.size, i.bytes)) = some (some (.bool false), 1, 1) := by kernel_rfl
/-- Pages' head, heats and frames are made. -/
structure OpW (w0 : World) (A : FlA) (C : CfgZ) (lim pb hb tb : Nat) (W : World) : Prop where
  head : Holds W pb (ldRow A C lim hb tb (.slice none 0 0)) 103
  hts : Holds W hb (rowOf (fun _ => .int .i64 0) (pgC C)) 3
  tks : Holds W tb (rowOf (fun _ => .bool false) (frmC C)) 4
  lo : w0.heap.size ≤ pb ∧ w0.heap.size ≤ hb ∧ w0.heap.size ≤ tb
  nd : pb ≠ hb ∧ pb ≠ tb ∧ hb ≠ tb
  gr : Gr [] w0 W
section
variable {w0 w w' wr : World} {A : FlA} {a : DevA} {C : CfgZ} {F : Nat → Nat → Nat} {V : FlV} {c : Nat → Nat} {N lim pb hb tb : Nat} {fr mv : Nat → Nat} {D : DevS} {B : Nat → BkS} {j : Nat → Nat}
theorem opw_box {w8 : World} {hb tb : Nat} (g8 : Gr [] w0 w8) (h1 : Holds w8 hb (rowOf (fun _ => .int .i64 0) (pgC C)) 3) (h2 : Holds w8 tb (rowOf (fun _ => .bool false) (frmC C)) 4) (l1 : w0.heap.size ≤ hb) (l2 : w0.heap.size ≤ tb) (hn : hb ≠ tb) :
    OpW w0 A C lim w8.heap.size hb tb (w8.alloc (Obj.cells (ldRow A C lim hb tb (.slice none 0 0)) 103)) := by
  have q1 := h1.lt
  have q2 := h2.lt
  exact ⟨Holds.new _ _ _, h1.alloc _, h2.alloc _, ⟨g8.size, l1, l2⟩, ⟨by omega, by omega, hn⟩, g8.alloc _⟩
theorem opw_A {w8 : World} (g8 : Gr [] w0 w8) (h1 : Holds w8 w0.heap.size (rowOf (fun _ => .int .i64 0) (pgC C)) 3) :
    OpW w0 A C lim (w8.heap.size + 1) w0.heap.size w8.heap.size ((w8.alloc (Obj.cells (rowOf (fun _ => .bool false) (frmC C)) 4)).alloc (Obj.cells (ldRow A C lim w0.heap.size w8.heap.size (.slice none 0 0)) 103)) := by
  have q1 := h1.lt
  have := opw_box (A := A) (lim := lim) (C := C) (g8.alloc (Obj.cells (rowOf (fun _ => .bool false) (frmC C)) 4)) (h1.alloc _) (Holds.new w8 _ 4) (Nat.le_refl _) g8.size (by omega)
  rw [World.size_alloc] at this
  exact this
theorem opw_B {w8 : World} (g8 : Gr [] w0 w8) :
    OpW w0 A C lim (w8.heap.size + 1 + 1) w8.heap.size (w8.heap.size + 1) (((w8.alloc (Obj.cells (rowOf (fun _ => .int .i64 0) (pgC C)) 3)).alloc (Obj.cells (rowOf (fun _ => .bool false) (frmC C)) 4)).alloc (Obj.cells (ldRow A C lim w8.heap.size (w8.heap.size + 1) (.slice none 0 0)) 103)) := by
  have hs : (w8.alloc (Obj.cells (rowOf (fun _ => .int .i64 0) (pgC C)) 3)).heap.size = w8.heap.size + 1 := World.size_alloc _ _
  have hn := Holds.new (w8.alloc (Obj.cells (rowOf (fun _ => .int .i64 0) (pgC C)) 3)) (rowOf (fun _ => .bool false) (frmC C)) 4
  rw [hs] at hn
  have := opw_box (A := A) (lim := lim) (C := C) ((g8.alloc (Obj.cells (rowOf (fun _ => .int .i64 0) (pgC C)) 3)).alloc (Obj.cells (rowOf (fun _ => .bool false) (frmC C)) 4)) ((Holds.new w8 _ 3).alloc _) hn g8.size (by have := g8.size; omega) (by omega)
  rw [World.size_alloc, World.size_alloc] at this
  exact this
theorem opw_C {w8 : World} (g8 : Gr [] w0 w8) :
    OpW w0 A C lim (w8.heap.size + 1 + 1) (w8.heap.size + 1) w8.heap.size (((w8.alloc (Obj.cells (rowOf (fun _ => .bool false) (frmC C)) 4)).alloc (Obj.cells (rowOf (fun _ => .int .i64 0) (pgC C)) 3)).alloc (Obj.cells (ldRow A C lim (w8.heap.size + 1) w8.heap.size (.slice none 0 0)) 103)) := by
  have hs : (w8.alloc (Obj.cells (rowOf (fun _ => .bool false) (frmC C)) 4)).heap.size = w8.heap.size + 1 := World.size_alloc _ _
  have hn := Holds.new (w8.alloc (Obj.cells (rowOf (fun _ => .bool false) (frmC C)) 4)) (rowOf (fun _ => .int .i64 0) (pgC C)) 3
  rw [hs] at hn
  have := opw_box (A := A) (lim := lim) (C := C) ((g8.alloc (Obj.cells (rowOf (fun _ => .bool false) (frmC C)) 4)).alloc (Obj.cells (rowOf (fun _ => .int .i64 0) (pgC C)) 3)) hn ((Holds.new w8 _ 4).alloc _) (by have := g8.size; omega) g8.size (by omega)
  rw [World.size_alloc, World.size_alloc] at this
  exact this
theorem keep3h {W W' : World} {b : Nat} {x0 x1 x2 : Value} (h : W.cell? ⟨b, 0, none⟩ = some x0 ∧ W.cell? ⟨b, 1, none⟩ = some x1 ∧ W.cell? ⟨b, 2, none⟩ = some x2) (g : Gr [] W W') : W'.cell? ⟨b, 0, none⟩ = some x0 ∧ W'.cell? ⟨b, 1, none⟩ = some x1 ∧ W'.cell? ⟨b, 2, none⟩ = some x2 :=
  have hb := World.block_lt_of_cell? W _ h.1
  ⟨(g.cell0 hb).trans h.1, (g.cell0 hb).trans h.2.1, (g.cell0 hb).trans h.2.2⟩
theorem kA3h {W : World} {b : Nat} {x0 x1 x2 : Value} {o : Obj} (h : W.cell? ⟨b, 0, none⟩ = some x0 ∧ W.cell? ⟨b, 1, none⟩ = some x1 ∧ W.cell? ⟨b, 2, none⟩ = some x2) : (W.alloc o).cell? ⟨b, 0, none⟩ = some x0 ∧ (W.alloc o).cell? ⟨b, 1, none⟩ = some x1 ∧ (W.alloc o).cell? ⟨b, 2, none⟩ = some x2 := keep3h h ((Gr.refl [] W).alloc o)
theorem kD3h {W : World} {b : Nat} {x0 x1 x2 : Value} (h : W.cell? ⟨b, 0, none⟩ = some x0 ∧ W.cell? ⟨b, 1, none⟩ = some x1 ∧ W.cell? ⟨b, 2, none⟩ = some x2) : W.drew.cell? ⟨b, 0, none⟩ = some x0 ∧ W.drew.cell? ⟨b, 1, none⟩ = some x1 ∧ W.drew.cell? ⟨b, 2, none⟩ = some x2 := h
theorem afterZ0 {W w5 : World} (g : Gr [] W.drew w5) : Gr [] W w5 := (Gr.refl [] W).drew.trans g
theorem afterZ1 {W w5 : World} {cs : Array Value} {t : TypeId} (g : Gr [] (W.alloc (Obj.cells cs t)).drew w5) : Holds w5 W.heap.size cs t ∧ Gr [] W w5 := ⟨(Holds.new W cs t).gr0 ((Gr.refl [] _).drew.trans g), (((Gr.refl [] W).alloc _).drew).trans g⟩
def tkN (C : CfgZ) (n : Nat) : Array Value := rowOf (fun q => .bool (decide (q < n))) (frmC C)
theorem tkN_set (C : CfgZ) (n : Nat) : (tkN C n).setIfInBounds n (.bool true) = tkN C (n + 1) := by
  unfold tkN
  rw [rowOf_set]
  congr 1
  funext j
  by_cases e : j = n
  · rw [if_pos e, decide_eq_true (by omega)]
  · rw [if_neg e]
    congr 1
    by_cases h : j < n
    · rw [decide_eq_true h, decide_eq_true (by omega)]
    · rw [decide_eq_false h, decide_eq_false (by omega)]
/-- Some of the table's frames are taken. -/
structure OpT (w0 : World) (A : FlA) (C : CfgZ) (lim pb hb tb n : Nat) (W : World) : Prop where
  head : Holds W pb (ldRow A C lim hb tb (.slice none 0 0)) 103
  hts : Holds W hb (rowOf (fun _ => .int .i64 0) (pgC C)) 3
  tks : Holds W tb (tkN C n) 4
  lo : w0.heap.size ≤ pb ∧ w0.heap.size ≤ hb ∧ w0.heap.size ≤ tb
  nd : pb ≠ hb ∧ pb ≠ tb ∧ hb ≠ tb
  gr : Gr [] w0 W
theorem OpW.start {tb : Nat} (h : OpW w0 A C lim pb hb tb w) : OpT w0 A C lim pb hb tb 0 w := ⟨h.head, h.hts, by
  have e : tkN C 0 = rowOf (fun _ => .bool false) (frmC C) := by
    unfold tkN
    congr 1
  rw [e]; exact h.tks, h.lo, h.nd, h.gr⟩
theorem OpT.next {tb n : Nat} (h : OpT w0 A C lim pb hb tb n w) : OpT w0 A C lim pb hb tb (n + 1) (w.setCell ⟨tb, n, none⟩ (.bool true)) :=
  ⟨h.head.far (a := ⟨tb, n, none⟩) h.nd.2.1 _, h.hts.far (a := ⟨tb, n, none⟩) h.nd.2.2 _, by rw [← tkN_set]; exact h.tks.set n _, h.lo, h.nd, h.gr.setCell (p := ⟨tb, n, none⟩) (.inr h.lo.2.2) _⟩
theorem OpT.ld {tb : Nat} (hC : OkC C) (hp : 0 < pgC C) (fl : FLc C A a true F V c N w0) (h : OpT w0 A C lim pb hb tb (tbC C) w) : LdI w A a C F V c N lim pb hb tb fr mv 0 (.slice none 0 0) w := by
  have hlt := fl.fl.lt
  have fw := fl.gr0 h.gr
  have key : ∀ b, w0.heap.size ≤ b → b ∉ A.all (cR C) ++ a.all := fun b hb e => by have := hlt b e; omega
  refine ⟨fw, h.head, ⟨rfl, .inl ⟨rfl, rfl⟩⟩, h.hts, ⟨_, fun q => decide (q < tbC C), h.tks, fun q hq => rowOf_get _ _ _ hq, fun q hq => ?_⟩, ⟨h.head.lt, h.hts.lt, h.tks.lt, fw.fl.lt⟩, h.nd, ⟨key _ h.lo.1, key _ h.lo.2.1, key _ h.lo.2.2⟩, Gr.refl _ _⟩
  constructor
  · intro e; exact .inl (of_decide_eq_true e)
  · rintro (e | ⟨g, hg, _⟩)
    · exact decide_eq_true e
    · omega
/-- Behind load: pages. -/
theorem LdI.done {v : Value} (hp : 0 < pgC C) (ht : TbO C F fr mv) (hm : ∀ g, g < pgC C → mv g ≤ N) (h : LdI w0 A a C F V c N lim pb hb tb fr mv (pgC C) v wr) : ∃ (X : HtA) (tk : Nat → Bool), X.pb = pb ∧ HtIs wr X A a C F V c N lim ⟨fr, mv, fun _ => 0, tk⟩ ∧ ∀ x ∈ X.all, x = pb ∨ x = hb ∨ x = tb ∨ w0.heap.size ≤ x := by
  obtain ⟨cur, tk, q1, q2, q3⟩ := h.tks
  have hd := h.head
  obtain ⟨l1, l2, l3, l4⟩ := h.lo
  obtain ⟨d1, d2, d3⟩ := h.nd
  rcases h.own.2 with ⟨_, hz⟩ | ⟨lb, cl, curr, hvr, hgr, hhr, x1, x2, hsr, htr⟩
  · omega
  rw [hvr] at hd
  refine ⟨⟨pb, lb, cl, hb, tb⟩, tk, rfl, ⟨h.fl, hp, hd, ⟨curr, hhr, fun g hg => ?_⟩, ⟨_, h.hts, fun g hg => ?_⟩, ⟨cur, q1, q2⟩, fun x hx => ?_, ?_, by omega, ⟨ht.lt, ht.inj, q3⟩, ht.tab, hm, fun g hg => Nat.zero_le _⟩, fun x hx => ?_⟩
  · obtain ⟨s1, s2⟩ := plL_get fr mv (pgC C) hg
    rw [← htr] at s1 s2
    rw [List.getElem?_take, if_pos (by omega), Array.getElem?_toList] at s1 s2
    exact ⟨s1, s2⟩
  · exact rowOf_get _ _ _ hg
  · simp only [HtA.all, List.mem_cons, List.not_mem_nil, or_false] at hx
    rcases hx with rfl | rfl | rfl | rfl
    · exact h.na.1
    · intro e; have := l4 _ e; omega
    · exact h.na.2.1
    · exact h.na.2.2
  · exact ⟨by show pb ≠ lb; omega, d1, d2, by show lb ≠ hb; omega, by show lb ≠ tb; omega, d3⟩
  · simp only [HtA.all, List.mem_cons, List.not_mem_nil, or_false] at hx
    rcases hx with rfl | rfl | rfl | rfl
    · exact .inl rfl
    · exact .inr (.inr (.inr hgr))
    · exact .inr (.inl rfl)
    · exact .inr (.inr (.inl rfl))
set_option maxRecDepth 100000 in
set_option maxHeartbeats 16000000 in
theorem hopen_any (hC : OkC C) (hf : FlD C true F V N D B j) (hd : DevIs w a D) (hN : N < 490000000) (hp : 0 < pgC C) (ht : TbO C F fr mv) (hm : ∀ g, g < pgC C → mv g ≤ N) (hl : 1 ≤ lim) (hl2 : lim < 1000000) :
    Calls Tryz.prog 42 #[.pointer (some ⟨a.bd, 0, none⟩), .int .i64 (lim : Int)] w fun e w' => ∃ (X : HtA) (A : FlA) (tk : Nat → Bool), e = .returned (.tuple #[.pointer (some ⟨X.pb, 0, none⟩), .int .i64 0]) ∧ HtIs w' X A a C F V (fun _ => 0) N lim ⟨fr, mv, fun _ => 0, tk⟩ ∧ (∀ x ∈ X.all ++ A.all (cR C), w.heap.size ≤ x) ∧ Gr [] w w' := by
  obtain ⟨n1, n2, n3, n4, n5, n6⟩ := pg_nums hC hp
  have HP := Lib.hid (And.intro hC (And.intro hp (And.intro ht (And.intro hm hN))))
  have HOp := Lib.hid (flc_open hC hf (by omega) hd)
  have HDL := Lib.hid hd.lt
  have HPl := Lib.hid (fun W => plan_any C hC.wf.1 W)
  obtain ⟨G, hG⟩ : ∃ G, G = pgC C := ⟨_, rfl⟩
  obtain ⟨H, hH⟩ : ∃ H, H = frmC C := ⟨_, rfl⟩
  obtain ⟨T, hT⟩ : ∃ T, T = tbC C := ⟨_, rfl⟩
  have hG7 : G ≤ 2048 := by omega
  have hH7 : H ≤ 2048 := by omega
  have HN := Lib.hid (And.intro hG (And.intro hH (And.intro hT (And.intro n1 (And.intro (show T ≤ H by omega) n2)))))
  rw [← hG, ← hT] at HPl
  obtain ⟨fz, hfz⟩ : ∃ fz, fz = freeC C := ⟨_, rfl⟩
  rw [← hfz] at HPl
  have HFZ := Lib.hid hfz
  have hG0 : ¬ G = 0 := by omega
  have hG0b : ((G : Int) == 0) = false := by simp; omega
  have hl1 : ¬ (lim : Int) < 1 := by omega
  have hl3 : ¬ lim < 1 := by omega
  unfold cfgV at HPl
  clear hf hd hC hp ht hm hN n1 n2 n3 n4 n5 n6 hG hH hT hfz
  go_enter Tryz.func42, Tryz.ntmps42
  go_wp2_with fail
  refine HOp.out.mono ?_
  rintro e w2 ⟨A, rfl, f2, n2, g2⟩
  have H2 := Lib.hid (And.intro f2 (And.intro n2 g2))
  have HCf := Lib.hid (show Calls Tryz.prog 68 #[.pointer (some ⟨A.fb, 0, none⟩)] w2 (fun e w' => e = .returned (.agg #[.int .i64 C.r, .int .i64 C.l, .int .i64 C.s, .int .i64 C.psi, .int .u64 (C.key : Int)]) ∧ Gr [] w2 w') from f2.fl.config)
  clear f2 n2 g2 HOp
  go_wp2_with fail
  refine HCf.out.mono ?_
  rintro e w3 ⟨rfl, g3⟩
  have H3 := Lib.hid (And.intro (H2.out.1.gr0 g3) (H2.out.2.2.trans g3))
  clear g3 HCf
  go_wp2_with fail
  refine (HPl.out _).mono ?_
  rintro e w4 ⟨rfl, g4⟩
  have ga := g4.alloc (Obj.cells #[.int .i64 (G : Int), .int .i64 (T : Int), .int .i64 fz] 99)
  have hh := Holds.new w4 #[.int .i64 (G : Int), .int .i64 (T : Int), .int .i64 fz] 99
  have H4 := Lib.hid (And.intro (H3.out.1.gr0 ga) (And.intro (H3.out.2.trans ga) hh))
  clear g4 ga hh HPl H3
  go_upto_region 9 with fail
  generalize w4.alloc (Obj.cells #[.int .i64 (G : Int), .int .i64 (T : Int), .int .i64 fz] 99) = w5 at *
  obtain ⟨yb, hyb⟩ : ∃ b, w4.heap.size = b := ⟨_, rfl⟩
  rw [hyb] at H4 ⊢
  clear hyb
  have y0 := H4.out.2.2.cell 0
  have y1 := H4.out.2.2.cell 1
  have y2 := H4.out.2.2.cell 2
  go_upto_region 11 with fail
  have mk1 := make_run (.int .i64 0) 8 G (G : Int) rfl Tryz.underlying101 infoI10 rfl (by omega) (by omega)
  have mk2 := make_run (.bool false) 1 H (H : Int) rfl Tryz.underlying59 infoB10 rfl (by omega) (by omega)
  have HLn := Lib.hid (fun W (g : Gr [] w5 W) => (H4.out.1.gr0 g).fl.lines)
  obtain ⟨N8, hN8⟩ : ∃ x, x = cR C * cL C := ⟨_, rfl⟩
  rw [← hN8] at HLn
  have t8 : (N8 : Int).tdiv 8 = (H : Int) := by rw [Int.tdiv_eq_ediv_of_nonneg (by omega)]; have := HN.out; omega
  have wH : IntKind.i64.wrap (H : Int) = (H : Int) := IntWalk.i64_in _ (by omega)
  have S0 : w5.cell? ⟨yb, 0, none⟩ = some (.int .i64 (G : Int)) ∧ w5.cell? ⟨yb, 1, none⟩ = some (.int .i64 (T : Int)) ∧ w5.cell? ⟨yb, 2, none⟩ = some (.int .i64 fz) := ⟨y0, y1, y2⟩
  have S0d := kD3h S0
  clear hN8 y0 y1 y2
  go_cut [9] (fun pv wz => ∃ pb hb tb : Nat, pv = .pointer (some ⟨pb, 0, none⟩) ∧ OpW w5 A C lim pb hb tb wz)
  case first =>
    go_region_held3 (fun w' : World => w'.cell? ⟨yb, 0, none⟩ = some (.int .i64 (G : Int)) ∧ w'.cell? ⟨yb, 1, none⟩ = some (.int .i64 (T : Int)) ∧ w'.cell? ⟨yb, 2, none⟩ = some (.int .i64 fz)) (with_reducible (first | assumption | ((repeat (first | assumption | refine kD3h ?_ | refine kA3h ?_)); done))) ((go_at_call 69; (with_reducible refine (HLn.out _ (by repeat (first | exact Gr.refl _ _ | refine Gr.drew ?_ | refine Gr.alloc ?_ _))).mono ?_); rintro rr w8 ⟨rfl, g8⟩; (with_reducible have S8 := keep3h (by assumption) g8); (first
      | ((with_reducible have yh := afterZ1 g8); have yh1 := yh.1; have yh2 := yh.2; clear yh g8)
      | ((with_reducible have yh2 := afterZ0 g8); clear g8))))
    all_goals (go_wp2_with fail; go_meet)
    all_goals
      obtain ⟨eG, eH, eT, _⟩ := HN.out
      have eF := HFZ.out
      subst eG
      subst eH
      subst eT
      subst eF
    all_goals first
      | exact ⟨_, _, _, rfl, opw_A yh2 yh1⟩
      | exact ⟨_, _, _, rfl, opw_B yh2⟩
      | exact ⟨_, _, _, rfl, opw_C yh2⟩
  case rest =>
    obtain ⟨pb, hb, tb, rfl, ow⟩ := hcut
    obtain ⟨wy, hwy⟩ : ∃ wy, wy = wc := ⟨_, rfl⟩
    rw [← hwy] at ow ⊢
    have HW := Lib.hid ow.start
    have y1 := (H4.out.2.2.gr0 ow.gr).cell 1
    simp only [List.getElem?_toArray, List.getElem?_cons_succ, List.getElem?_cons_zero] at y1
    have hT7 : T ≤ 2048 := by have := HN.out; omega
    have hTH : T ≤ H := HN.out.2.2.2.2.1
    clear hwy ow S0 S0d mk1 mk2 HLn t8 wH
    go_wp2_with fail
    clear y1
    go_loopw [44] (fun iv wr => ∃ n : Nat, iv = .int .i64 (n : Int) ∧ n ≤ T ∧ Hid (OpT w5 A C lim pb hb tb n wr)) (fun iv _ => T - (intOf iv).toNat)
    case atStart => exact ⟨0, rfl, by omega, HW⟩
    case round =>
      clear HW
      obtain ⟨n, rfl, hn, HS⟩ := hrel
      by_cases hnT : n < T
      · as_aux_lemma =>
          have i1 : (n : Int) < (T : Int) := by omega
          have i2 : (n : Int) < (H : Int) := by omega
          have i3 : (0 : Int) ≤ (n : Int) := by omega
          have c7 : wr.cell? ⟨pb, 7, none⟩ = some (.slice (some ⟨tb, 0, none⟩) (frmC C) (frmC C)) := HS.out.head.cell 7
          have tz := (HS.out.tks.cell n).trans (show (tkN C n)[n]? = some (.bool (decide (n < n))) from rowOf_get _ _ _ (by have := HN.out; omega))
          have tf := HS.out.tks.frozen n
          rw [← HN.out.2.1] at c7
          have HX := Lib.hid HS.out.next
          have HI := Lib.hid hnT
          go_wp2_with fail
          clear c7 tz tf
          go_roundw
          case rel => exact ⟨n + 1, by go_num, HI.out, HX⟩
          case measure => simp [intOf]; omega
      · obtain rfl : n = T := by omega
        have ij : ¬ ((n : Int) < (n : Int)) := by omega
        have HLd := Lib.hid (hload_any (lim := lim) (fr := fr) (mv := mv) HP.out.2.1 HP.out.2.2.1 (OpT.ld HP.out.1 HP.out.2.1 H4.out.1 (by have e := HN.out.2.2.1; rw [← e]; exact HS.out)))
        clear hnT hn
        go_wp2_with fail
        refine HLd.out.mono ?_
        rintro e w9 ⟨v, rfl, h9⟩
        have H9 := Lib.hid h9
        clear h9 HLd
        go_wp2_with fail
        go_ret2
        obtain ⟨X, tk, x1, x2, x3⟩ := H9.out.done HP.out.2.1 HP.out.2.2.1 HP.out.2.2.2.1
        have hlo := HS.out.lo
        have hsz := (H4.out.2.1.trans HS.out.gr).size
        have hs5 := H4.out.2.1.size
        refine ⟨X, A, tk, by rw [x1]; rfl, x2, fun x hx => ?_, (H4.out.2.1.trans HS.out.gr).nextN H9.out.gr (fun x hx => .inr ?_)⟩
        · rcases List.mem_append.1 hx with hx | hx
          · rcases x3 x hx with e | e | e | e <;> omega
          · exact H2.out.2.1 x hx
        · simp only [List.mem_cons, List.not_mem_nil, or_false] at hx
          omega
end
end Go.Proofs.YtifekejcbhllpaaGreat

/-
  Layer 10: a page's entry in the table, whatever comes; what a power failure leaves of pages.
-/
namespace Go.Proofs.YtifekejcbhllpaaGreat
open Go.RowKit
set_option linter.unusedVariables false

section
variable {w w' : World} {A : FlA} {a : DevA} {C : CfgZ} {gd cm : Bool} {F : Nat → Nat → Nat} {V : FlV} {N pb : Nat}
set_option maxRecDepth 100000 in
set_option maxHeartbeats 8000000 in
/-- A page's word of the table is written. -/
theorem genter_any (fl : FLx C A a gd cm F V N w) (hc : w.cell? ⟨pb, 0, none⟩ = some (.pointer (some ⟨A.fb, 0, none⟩))) (hN : N < 490000000) (g f m : Nat) (hg : g < 16384) (hl : g / 8 < cR C * cL C) (hf : f < 65536) (hm : m < 4294967296) :
    Calls Tryz.prog 56 #[.pointer (some ⟨pb, 0, none⟩), .int .i64 (g : Int), .agg #[.int .i64 (f : Int), .int .u32 (m : Int)]] w fun e w' => ∃ x : Int, e = .returned (.int .i64 x) ∧ FxP C A a gd cm F (fun l2 k => if l2 = g / 8 then updF (F (g / 8)) (g % 8) (guardN (m * 65536 + f)) k else F l2 k) (fun F' => ∃ H, (F' = fun l2 k => if l2 = g / 8 then H k else F l2 k) ∧ One2 (F (g / 8)) (updF (F (g / 8)) (g % 8) (guardN (m * 65536 + f))) H) (N + 4200) x w' ∧ Gr (A.all (cR C) ++ a.all) w w' := by
  have HWd := Lib.hid (fun W => hword_any f m hf hm W)
  have HWr := Lib.hid (fun W (g1 : Gr [] w W) => (fl.gr0 g1).word hN (g / 8) (g % 8) (guardN (m * 65536 + f)) hl (Nat.mod_lt _ (by omega)) (guardN_lt _ (by omega)))
  obtain ⟨K, hK⟩ : ∃ K, K = guardN (m * 65536 + f) := ⟨_, rfl⟩
  rw [← hK] at HWd HWr ⊢
  have t1 : (g : Int).tdiv 8 = ((g / 8 : Nat) : Int) := (Int.ofNat_tdiv g 8).symm
  have t2 : (g : Int).tmod 8 = ((g % 8 : Nat) : Int) := (Int.ofNat_tmod g 8).symm
  obtain ⟨l, hl0⟩ : ∃ l, l = g / 8 := ⟨_, rfl⟩
  obtain ⟨k, hk0⟩ : ∃ k, k = g % 8 := ⟨_, rfl⟩
  rw [← hl0] at t1 HWr ⊢
  rw [← hk0] at t2 HWr ⊢
  have w1 : IntKind.i64.wrap (l : Int) = (l : Int) := IntWalk.i64_in _ (by omega)
  have w2 : IntKind.i64.wrap (k : Int) = (k : Int) := IntWalk.i64_in _ (by omega)
  have ga := (Gr.refl [] w).alloc (Obj.cells #[.int .i64 (f : Int), .int .u32 (m : Int)] 97)
  have hh := Holds.new w #[.int .i64 (f : Int), .int .u32 (m : Int)] 97
  have hc2 := (ga.cell0 (World.block_lt_of_cell? w _ hc)).trans hc
  have HA := Lib.hid ga
  clear hK hl0 hk0 fl hf hm hg hl hc
  go_enter Tryz.func56, Tryz.ntmps56
  go_upto_region 1 with fail
  generalize w.alloc (Obj.cells #[.int .i64 (f : Int), .int .u32 (m : Int)] 97) = w1 at *
  obtain ⟨bb, hbb⟩ : ∃ b, w.heap.size = b := ⟨_, rfl⟩
  rw [hbb] at hh ⊢
  clear hbb ga
  have k0 := kp_cell hc2
  have k1 := kp_cell (hh.cell 0)
  have k2 := kp_cell (hh.cell 1)
  have hne := kp_ne w1
  refine wp_region_kp_tail 10 (by kernel_rfl) (by kernel_rfl) ?_
  simp only [List.take_succ_cons, List.take_zero, List.drop_succ_cons, List.drop_zero]
  repeat (go_big_quiet_step ((rename_i x; exact kp_call x ((HWd.out _).mono fun _ _ q => ⟨q.1, q.2.below0⟩))))
  with_reducible refine wpQuiet_nil ?_
  rintro _ ⟨y, rfl⟩
  have gy := Lib.hid (HA.out.trans (Gr.ofBelow (cs := []) y.h))
  clear k0 k1 k2 hne hh hc2 HA HWd
  generalize y.w = w2 at *
  clear y
  go_wp2_with fail
  refine (HWr.out _ gy.out).mono ?_
  rintro e w3 ⟨x, rfl, f3, g3⟩
  have H3 := Lib.hid (And.intro f3 ((gy.out.of0 (cs := A.all (cR C) ++ a.all)).trans g3))
  clear f3 g3
  go_wp2_with fail
  go_ret
  exact ⟨x, rfl, H3.out.1, H3.out.2⟩
end
/-- What lines and a table tell of pages: these contents. -/
def PgY (C : CfgZ) (Y : Nat → Nat → Nat → Nat) (M : Nat) (F : Nat → Nat → Nat) : Prop :=
  ∃ fr mv, TbO C F fr mv ∧ (∀ g, g < pgC C → mv g ≤ M) ∧ ∀ g k m, g < pgC C → k < 8 → m < 8 → F (8 * fr g + k) m = Y g k m
/-- What pages read. -/
def ySee (F : Nat → Nat → Nat) (S : HtS) : Nat → Nat → Nat → Nat := fun g k m => F (8 * S.fr g + k) m
theorem PgY.congr {C : CfgZ} {Y Y' : Nat → Nat → Nat → Nat} {M M' : Nat} {F F' : Nat → Nat → Nat} (hC : OkC C) (hp : 0 < pgC C) (h : PgY C Y M F) (hF : ∀ l k, l < cR C * cL C → k < 8 → F' l k = F l k) (hM : M ≤ M') (hY : ∀ g k m, g < pgC C → k < 8 → m < 8 → Y g k m = Y' g k m) : PgY C Y' M' F' := by
  obtain ⟨n1, n2, n3, n4, n5, n6⟩ := pg_nums hC hp
  obtain ⟨fr, mv, t, m, y⟩ := h
  refine ⟨fr, mv, ⟨t.lt, t.inj, fun g hg => ?_, t.mv⟩, fun g hg => Nat.le_trans (m g hg) hM, fun g k x hg hk hx => ?_⟩
  · rw [hF _ _ (by omega) (by omega)]
    exact t.tab g hg
  · have := t.lt g hg
    rw [hF _ _ (by omega) hx, y g k x hg hk hx, hY g k x hg hk hx]
section
variable {w w' : World} {X : HtA} {A : FlA} {a : DevA} {C : CfgZ} {gd cm : Bool} {F F' : Nat → Nat → Nat} {V V' : FlV} {N N' lim : Nat} {S : HtS}
theorem HgIs.tbo (h : HgIs w X A a C gd cm F V N lim S) (hN : N < 4294967296) : TbO C F S.fr S.mv := ⟨h.inv.lt, h.inv.inj, h.tab, fun g hg => by have := h.mvb g hg; omega⟩
theorem HgIs.tkf (h : HgIs w X A a C gd cm F V N lim S) {q : Nat} (hq : q < frmC C) (hf : S.tk q = false) : tbC C ≤ q ∧ ∀ g, g < pgC C → S.fr g ≠ q := by
  have hn : ¬ (q < tbC C ∨ ∃ g, g < pgC C ∧ S.fr g = q) := fun e => by rw [(h.inv.tk q hq).2 e] at hf; exact absurd hf (by simp)
  exact ⟨by omega, fun g hg e => hn (.inr ⟨g, hg, e⟩)⟩
theorem HgIs.setF (h : HgIs w X A a C gd cm F V N lim S) (k : Gr (A.all (cR C) ++ a.all) w w') (fl : FLx C A a gd cm F' V' N' w') (ht : ∀ g, g < pgC C → F' (g / 8) (g % 8) = F (g / 8) (g % 8)) (hN : N ≤ N') : HgIs w' X A a C gd cm F' V' N' lim S := by
  obtain ⟨c1, q1, q2⟩ := h.pls
  obtain ⟨c2, q3, q4⟩ := h.hts
  obtain ⟨c3, q5, q6⟩ := h.tks
  exact ⟨fl, h.pos, h.head.gr k (h.na _ (by simp [HtA.all])), ⟨c1, q1.gr k (h.na _ (by simp [HtA.all])), q2⟩, ⟨c2, q3.gr k (h.na _ (by simp [HtA.all])), q4⟩, ⟨c3, q5.gr k (h.na _ (by simp [HtA.all])), q6⟩, h.na, h.nd, h.cap, h.inv, fun g hg => (ht g hg).trans (h.tab g hg), fun g hg => Nat.le_trans (h.mvb g hg) hN, h.htb⟩
theorem HgIs.more (h : HgIs w X A a C gd cm F V N lim S) (hN : N ≤ N') : HgIs w X A a C gd cm F V N' lim S :=
  ⟨h.fl.more hN, h.pos, h.head, h.pls, h.hts, h.tks, h.na, h.nd, h.cap, h.inv, h.tab, fun g hg => Nat.le_trans (h.mvb g hg) hN, h.htb⟩
end
end Go.Proofs.YtifekejcbhllpaaGreat
