/-
  SparePlays, no act; whole.
-/
import Derived.Test.YtgifjnniohcacaaGreatSpBh
namespace Go.Proofs.YtgifjnniohcacaaGreat
open Go.ChangeShapes Go.WideShapes Go.ChangeAt Go.RowKit
set_option linter.unusedVariables false

set_option maxRecDepth 100000 in
set_option maxHeartbeats 40000000 in
theorem plays5_nil (x0 x1 x2 : Int) (w : World) :
    Calls Tryz.prog 3 #[.agg #[.int .i64 x0, .int .i64 x1, .int .i64 x2], .slice none 0 0] w fun e w' => e = .returned (.bool true) ∧ Gr [] w w' := by
  have hmn := minIsR Tryz.prog 0 0 40 40 rfl rfl
  have HSm := Lib.hid (fun W => small_any x0 x1 x2 W)
  have hok := small_ok x0 x1 x2
  obtain ⟨P, hP⟩ : ∃ P, P = smallP x0 x1 x2 := ⟨_, rfl⟩
  have hPb : P.a ≤ 2 ∧ P.l ≤ 4 ∧ P.s ≤ 10 := by rw [hP]; unfold smallP; simp only; omega
  rw [← hP] at HSm hok
  unfold planV at HSm
  obtain ⟨h1, h2, h3, h4, h5, h6⟩ := (okZ_iff P).1 hok
  have HOK := Lib.hid (And.intro hok (And.intro h1 (And.intro h3 (And.intro h5 hPb))))
  have HPr := Lib.hid (fun W => show Calls Tryz.prog 5 #[.agg #[.int .i64 P.a, .int .i64 P.l, .int .i64 P.s]] W _ from pair_any P hok (by omega) W)
  have HG0 := Lib.hid ((Gr.refl [] w).alloc (Obj.cells #[.int .i64 x0, .int .i64 x1, .int .i64 x2] 22))
  clear hP hok h1 h2 h3 h4 h5 h6 hPb
  go_enter Tryz.func3, Tryz.ntmps3
  go_wp2_with fail
  generalize (w.alloc (Obj.cells #[.int .i64 x0, .int .i64 x1, .int .i64 x2] 22)) = w1 at *
  refine (HSm.out _).mono ?_
  rintro e w2 ⟨rfl, b2⟩
  have HG2 := Lib.hid (HG0.out.nextB b2)
  have HHo := Holds.new w2 #[.int .i64 P.a, .int .i64 P.l, .int .i64 P.s] 25
  have HGa := Lib.hid (HG2.out.next0 ((Gr.refl [] w2).alloc (Obj.cells #[.int .i64 P.a, .int .i64 P.l, .int .i64 P.s] 25)))
  clear b2 HG0 HG2
  go_upto_region 2 with fail
  generalize (w2.alloc (Obj.cells #[.int .i64 P.a, .int .i64 P.l, .int .i64 P.s] 25)) = w3 at *
  obtain ⟨pb, hpb⟩ : ∃ pb, w2.heap.size = pb := ⟨_, rfl⟩
  rw [hpb] at HHo ⊢
  clear hpb
  have p0 := HHo.cell 0
  have p1 := HHo.cell 1
  have p2 := HHo.cell 2
  have HH3 := Lib.hid HHo
  clear HHo
  go_wp2_with fail
  refine (HPr.out _).mono ?_
  rintro e w4 ⟨a, q, r, F, rfl, d4, k4, r4, ar, qr, ti, zf, bf, la, lq, lr, g4⟩
  have HSF := Lib.hid (show SPF w a r pb from ⟨ar, (fun c => by have := la _ c; have := HH3.out.lt; omega), (fun c => by have := lr _ c; have := HH3.out.lt; omega), (fun x hx => Nat.le_trans HGa.out.size (la x hx)), (fun x hx => Nat.le_trans HGa.out.size (lr x hx))⟩)
  have HSD := Lib.hid (show SPD w w4 a r P pb F 20000 from ⟨d4, r4, bf, HH3.out.gr0 g4, HGa.out.trans g4⟩)
  have HSQ := Lib.hid (show SPQ w w4 a r P pb q ⟨0, fun _ => none⟩ 64 from ⟨k4.moreN _ (by omega), qr, (fun x hx => Nat.le_trans HGa.out.size (lq x hx)), (fun c => by have := lq _ c; have := HH3.out.lt; omega)⟩)
  have HON := Lib.hid (show OnS P F ⟨0, fun _ => none⟩ from ⟨⟨zf.calm.off, zf.calm.buf⟩, ti.congr HOK.out.1 (bare_calm F) rfl rfl rfl⟩)
  clear d4 k4 r4 ar qr ti zf bf la lq lr g4 p0 p1 p2 HH3 HGa HPr HSm
  go_wp2_with fail
  refine (wakes05 _).mono ?_
  rintro e w5 ⟨rfl, g5⟩
  have HSD := Lib.hid (HSD.out.gr0 g5)
  have HSQ := Lib.hid (HSQ.out.gr0 g5)
  clear g5
  go_wp2_with fail
  refine (media5_any a r F _ HSD.out.dev HSD.out.ref).mono ?_
  rintro e w6 ⟨rfl, g6⟩
  have HSD := Lib.hid (HSD.out.gr0 g6)
  have HSQ := Lib.hid (HSQ.out.gr0 g6)
  clear g6
  have p0 := HSD.out.pl.cell 0
  have p1 := HSD.out.pl.cell 1
  have p2 := HSD.out.pl.cell 2
  have hs0 : 0 ≤ P.s ∧ P.s ≤ 10 := ⟨HOK.out.2.2.2.1, HOK.out.2.2.2.2.2.2⟩
  obtain ⟨hs0, hs1⟩ := hs0
  go_wp2_with fail
  refine wp_loop_rounds 1 ?_
  rw [rounds_succ]
  go_wp2_with fail
  go_ret
  exact ⟨rfl, HSD.out.gr⟩
set_option maxRecDepth 100000 in
set_option maxHeartbeats 40000000 in
theorem plays5_empty (x0 x1 x2 : Int) (ad : Addr) (cap : Nat) (w : World) (hmax : cap ≤ maxLen) :
    Calls Tryz.prog 3 #[.agg #[.int .i64 x0, .int .i64 x1, .int .i64 x2], .slice (some ad) 0 cap] w fun e w' => e = .returned (.bool true) ∧ Gr [] w w' := by
  have hmn := minIsR Tryz.prog 0 0 40 40 rfl rfl
  unfold maxLen at hmax
  have HSm := Lib.hid (fun W => small_any x0 x1 x2 W)
  have hok := small_ok x0 x1 x2
  obtain ⟨P, hP⟩ : ∃ P, P = smallP x0 x1 x2 := ⟨_, rfl⟩
  have hPb : P.a ≤ 2 ∧ P.l ≤ 4 ∧ P.s ≤ 10 := by rw [hP]; unfold smallP; simp only; omega
  rw [← hP] at HSm hok
  unfold planV at HSm
  obtain ⟨h1, h2, h3, h4, h5, h6⟩ := (okZ_iff P).1 hok
  have HOK := Lib.hid (And.intro hok (And.intro h1 (And.intro h3 (And.intro h5 hPb))))
  have HPr := Lib.hid (fun W => show Calls Tryz.prog 5 #[.agg #[.int .i64 P.a, .int .i64 P.l, .int .i64 P.s]] W _ from pair_any P hok (by omega) W)
  have HG0 := Lib.hid ((Gr.refl [] w).alloc (Obj.cells #[.int .i64 x0, .int .i64 x1, .int .i64 x2] 22))
  clear hP hok h1 h2 h3 h4 h5 h6 hPb
  go_enter Tryz.func3, Tryz.ntmps3
  go_wp2_with fail
  generalize (w.alloc (Obj.cells #[.int .i64 x0, .int .i64 x1, .int .i64 x2] 22)) = w1 at *
  refine (HSm.out _).mono ?_
  rintro e w2 ⟨rfl, b2⟩
  have HG2 := Lib.hid (HG0.out.nextB b2)
  have HHo := Holds.new w2 #[.int .i64 P.a, .int .i64 P.l, .int .i64 P.s] 25
  have HGa := Lib.hid (HG2.out.next0 ((Gr.refl [] w2).alloc (Obj.cells #[.int .i64 P.a, .int .i64 P.l, .int .i64 P.s] 25)))
  clear b2 HG0 HG2
  go_upto_region 2 with fail
  generalize (w2.alloc (Obj.cells #[.int .i64 P.a, .int .i64 P.l, .int .i64 P.s] 25)) = w3 at *
  obtain ⟨pb, hpb⟩ : ∃ pb, w2.heap.size = pb := ⟨_, rfl⟩
  rw [hpb] at HHo ⊢
  clear hpb
  have p0 := HHo.cell 0
  have p1 := HHo.cell 1
  have p2 := HHo.cell 2
  have HH3 := Lib.hid HHo
  clear HHo
  go_wp2_with fail
  refine (HPr.out _).mono ?_
  rintro e w4 ⟨a, q, r, F, rfl, d4, k4, r4, ar, qr, ti, zf, bf, la, lq, lr, g4⟩
  have HSF := Lib.hid (show SPF w a r pb from ⟨ar, (fun c => by have := la _ c; have := HH3.out.lt; omega), (fun c => by have := lr _ c; have := HH3.out.lt; omega), (fun x hx => Nat.le_trans HGa.out.size (la x hx)), (fun x hx => Nat.le_trans HGa.out.size (lr x hx))⟩)
  have HSD := Lib.hid (show SPD w w4 a r P pb F 20000 from ⟨d4, r4, bf, HH3.out.gr0 g4, HGa.out.trans g4⟩)
  have HSQ := Lib.hid (show SPQ w w4 a r P pb q ⟨0, fun _ => none⟩ 64 from ⟨k4.moreN _ (by omega), qr, (fun x hx => Nat.le_trans HGa.out.size (lq x hx)), (fun c => by have := lq _ c; have := HH3.out.lt; omega)⟩)
  have HON := Lib.hid (show OnS P F ⟨0, fun _ => none⟩ from ⟨⟨zf.calm.off, zf.calm.buf⟩, ti.congr HOK.out.1 (bare_calm F) rfl rfl rfl⟩)
  clear d4 k4 r4 ar qr ti zf bf la lq lr g4 p0 p1 p2 HH3 HGa HPr HSm
  go_wp2_with fail
  refine (wakes05 _).mono ?_
  rintro e w5 ⟨rfl, g5⟩
  have HSD := Lib.hid (HSD.out.gr0 g5)
  have HSQ := Lib.hid (HSQ.out.gr0 g5)
  clear g5
  go_wp2_with fail
  refine (media5_any a r F _ HSD.out.dev HSD.out.ref).mono ?_
  rintro e w6 ⟨rfl, g6⟩
  have HSD := Lib.hid (HSD.out.gr0 g6)
  have HSQ := Lib.hid (HSQ.out.gr0 g6)
  clear g6
  have p0 := HSD.out.pl.cell 0
  have p1 := HSD.out.pl.cell 1
  have p2 := HSD.out.pl.cell 2
  have hs0 : 0 ≤ P.s ∧ P.s ≤ 10 := ⟨HOK.out.2.2.2.1, HOK.out.2.2.2.2.2.2⟩
  obtain ⟨hs0, hs1⟩ := hs0
  go_wp2_with fail
  refine wp_loop_rounds 1 ?_
  rw [rounds_succ]
  go_wp2_with fail
  go_ret
  exact ⟨rfl, HSD.out.gr⟩
theorem walk_SparePlays (a0 : List Int) (v1 : Value) {w : World} (l0 : a0.length = 3) (w0 : ∀ x ∈ a0, (Lit.int .i64 x).wf = true) (s1 : SlL w v1) :
    Calls Tryz.prog 3 #[.agg (a0.map (Value.int .i64)).toArray, v1] w fun e w' => e = .returned (.bool true) ∧ Below w.heap.size w w' := by
  match a0, l0 with
  | [x, y, z], _ =>
    rcases s1 with ⟨ao, cap, rfl, hn, hm⟩ | ⟨b, off, n, cap, xs, rfl, h1, h2, h3, h4, h5⟩
    · cases ao with
      | none =>
        obtain rfl := hn rfl
        exact (plays5_nil x y z w).mono fun _ _ q => ⟨q.1, q.2.below0⟩
      | some ad => exact (plays5_empty x y z ad cap w hm).mono fun _ _ q => ⟨q.1, q.2.below0⟩
    · exact (plays5_some x y z b off n cap xs w h1 h2 h3 h4 h5).mono fun _ _ q => ⟨q.1, q.2.below0⟩
end Go.Proofs.YtgifjnniohcacaaGreat
