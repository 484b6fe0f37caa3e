/-
  alloc: Use.
-/
import Derived.Test.YtpkhfdcokcchdaaAlE
import Derived.Deep.AppendLies
namespace Go.Proofs.Ytpkhfdcokcchdaa
open Go.RowKit

theorem two_pos : 0 < 2 := by decide
theorem small2 : 1 + 1 ≤ maxLen := by decide
theorem small3 : (1 + 1) * 16 ≤ 140737488355328 := by decide
theorem small2' : 0 + 1 ≤ maxLen := by decide
theorem small3' : (0 + 1) * 16 ≤ 140737488355328 := by decide
theorem one_two (a b : Nat) : ∀ u ∈ [Value.int .i64 (a : Int), .int .i64 (b : Int)], u.oneCell' = true := by simp [Value.oneCell']
theorem zl_one (a n : Nat) : cells2 (zl [(a, n)]) = [.int .i64 a, .int .i64 n] := rfl
set_option maxHeartbeats 4000000 in
set_option maxRecDepth 20000 in
theorem ause_some (N : Nat) (l l' : List (Nat × Nat)) (ao : Option Addr) (cap : Nat) (a n : Nat) (w : World) (h : SetIs w N l ao cap) (hok : okE N a n) (hu : useL l a n = some l') :
    Calls Try.prog 18 #[.agg #[.int .i64 N, .slice ao l.length cap], .agg #[.int .i64 a, .int .i64 n]] w fun e w' => ∃ ao' cap', e = .returned (.tuple #[.agg #[.int .i64 N, .slice ao' l'.length cap'], .int .i64 0]) ∧ SetIs w' N l' ao' cap' ∧ Gr [] w w' ∧ ∀ k o', ao' = some ⟨k, o', none⟩ → w.heap.size ≤ k := by
  obtain ⟨i0, hi0, hz0, hz1, hz2⟩ := info_parts infoExt
  have HR := Lib.hid (fun W => aright_any N (.slice ao l.length cap) a n W h.hi)
  rw [decide_eq_true hok] at HR
  have HF := Lib.hid (fun (W : World) (g : Gr [] w W) => afrom_any N l ao cap a W (h.gr0 g))
  have HG := Lib.hid ((((Gr.refl [] w).alloc (Obj.cells #[.int .i64 N, .slice ao l.length cap] 25)).alloc (Obj.cells #[.int .i64 a, .int .i64 n] 35)).alloc (Obj.cells #[.int .i64 0, .slice none 0 0] 25))
  have HB := Lib.hid (Boxes.new w N (.slice ao l.length cap) a n)
  have hok2 : 1 ≤ n := by unfold okE at hok; omega
  obtain ⟨hr', -, -, -⟩ := useL_some h.runs hok2 hu
  have hle := fromI_le l (a : Int)
  have hlen := h.len
  have hhi := h.hi
  rw [useL_from] at hu
  unfold okE at hok
  obtain ⟨i, hi⟩ : ∃ i, i = fromI l (a : Int) := ⟨_, rfl⟩
  rw [← hi] at HF hle hu
  clear hi
  obtain ⟨e, he⟩ : ∃ e, l[i]? = some e := by
    cases q : l[i]? with
    | none => rw [q] at hu; cases hu
    | some e => exact ⟨e, rfl⟩
  rw [he] at hu
  simp only at hu
  have hu2 : e.1 ≤ a ∧ a + n ≤ e.1 + e.2 := by
    by_cases c : e.1 ≤ a ∧ a + n ≤ e.1 + e.2
    · exact c
    · rw [if_neg c] at hu; cases hu
  rw [if_pos hu2] at hu
  injection hu with hu
  have hil : i < l.length := (List.getElem?_eq_some_iff.1 he).1
  obtain ⟨b0, o, hao, hb, c1, c2⟩ := h.at he
  have q := h.mem he
  subst hao
  have HW := Lib.hid (fun (W : World) (g : Gr [] w W) (base : Nat) (v : Value) (hv : W.ownsRow base 35 2 v (pieces e a n).length (cells2 (zl (pieces e a n)))) =>
    awith_set N i (i + 1) l'.length l l' (pieces e a n) b0 o cap base v W (h.gr0 g) (by omega) (by omega) hv (by unfold pieces; split <;> split <;> simp) hu.symm rfl hr')
  rw [show ((i + 1 : Nat) : Int) = (i : Int) + 1 by omega] at HW
  have HC := Lib.hid (show b0 < w.heap.size ∧ w.cell? ⟨b0, o + i * 2, none⟩ = some (.int .i64 (e.1 : Int)) ∧ w.cell? ⟨b0, o + i * 2 + 1, none⟩ = some (.int .i64 (e.2 : Int)) from ⟨hb, c1, c2⟩)
  clear h hr' hu he hb c1 c2
  obtain ⟨m, hm⟩ : ∃ m, m = l.length := ⟨_, rfl⟩
  obtain ⟨m', hm'⟩ : ∃ m', m' = l'.length := ⟨_, rfl⟩
  rw [← hm] at HG HR HF HB HW hle hlen hil
  rw [← hm'] at HW ⊢
  rw [← hm]
  clear hm hm'
  go_enter Try.func18, Try.ntmps18
  go_wp2_with fail
  refine (HR.out _).mono ?_
  rintro e' w1 ⟨rfl, g1⟩
  have b1 := HB.out.gr0 g1
  have G1 := HG.out.next0 g1
  have s0 := b1.s0
  have s1 := b1.s1
  have e0 := b1.e0
  have e1 := b1.e1
  have HK := Lib.hid (And.intro b1 G1)
  clear b1 G1 g1
  go_wp2_with fail
  refine (HF.out _ HK.out.2).mono ?_
  rintro e' w2 ⟨rfl, g2⟩
  have b2 := HK.out.1.gr0 g2
  have G2 := HK.out.2.next0 g2
  clear s0 s1 e0 e1 g2
  have s0 := kp_cell b2.s0
  have s1 := kp_cell b2.s1
  have e0 := kp_cell b2.e0
  have e1 := kp_cell b2.e1
  have k1 := kp_cell (w0 := w2) (a := ⟨b0, o + i * 2, none⟩) (by rw [G2.cell0 HC.out.1]; exact HC.out.2.1)
  have k2 := kp_cell (w0 := w2) (a := ⟨b0, o + i * 2 + 1, none⟩) (by rw [G2.cell0 HC.out.1]; exact HC.out.2.2)
  have HK2 := Lib.hid (And.intro b2 G2)
  clear b2 G2 HK HR HF
  go_wp2_with fail
  have hne := kp_ne w2
  have HEND := Lib.hid (show ∀ W : World, Kp w2 W → Boxes W w.heap.size N (.slice (some ⟨b0, o, none⟩) m cap) a n ∧ Gr [] w W from fun W hk => ⟨HK2.out.1.below hk, HK2.out.2.nextB hk⟩)
  generalize hB0 : w.heap.size = B at *
  have HB0 := Lib.hid hB0
  clear hB0
  have hd : ((i : Int) == (m : Int)) = false := by simp; omega
  have hw1 : IntKind.i64.wrap ((e.1 : Int) + (e.2 : Int)) = (e.1 : Int) + (e.2 : Int) := IntWalk.i64_in _ (by omega)
  have hw2 : IntKind.i64.wrap ((a : Int) + (n : Int)) = (a : Int) + (n : Int) := IntWalk.i64_in _ (by omega)
  have hlt2 : ¬ (e.1 : Int) + (e.2 : Int) < (a : Int) + (n : Int) := by omega
  have hle2 : ¬ (a : Int) < (e.1 : Int) := by omega
  refine wp_region_kp (by kernel_rfl) (by kernel_rfl) ?_
  repeat (go_big_quiet_step ((rename_i x; first
    | exact kp_call x (aend_bel _ _ _ hw1)
    | exact kp_call x (aend_bel _ _ _ hw2))))
  with_reducible refine wpQuiet_nil ?_
  rintro _ ⟨y, rfl⟩
  have s0 := s0 y
  have s1 := s1 y
  have e0 := e0 y
  have e1 := e1 y
  have k1 := k1 y
  have k2 := k2 y
  have hy := y.h
  generalize y.w = w3 at *
  have H3 := Lib.hid hy
  clear hy hne y
  have hsz : B + 3 ≤ w3.heap.size := by have := (HEND.out _ H3.out).1.r.lt; omega
  have HSZ := Lib.hid hsz
  -- the run's own variable
  have HST := Lib.hid (show ∀ W, Kp (w3.alloc (Obj.cells #[.int .i64 e.1, .int .i64 e.2] 35)) W → Boxes W B N (.slice (some ⟨b0, o, none⟩) m cap) a n ∧ Holds W w3.heap.size #[.int .i64 e.1, .int .i64 e.2] 35 ∧ Gr [] w W from fun W hk => by
    have g := (Gr.refl [] w3).alloc (Obj.cells #[.int .i64 e.1, .int .i64 e.2] 35)
    obtain ⟨q1, q2⟩ := HEND.out _ H3.out
    exact ⟨(q1.gr0 g).below hk, (Holds.new w3 _ _).below hk, (q2.next0 g).nextB hk⟩)
  have q4 := HST.out _ (Kp.refl _)
  have a0 := q4.1.e0
  have a1 := q4.1.e1
  have x0 := q4.2.1.cell 0
  have x1 := q4.2.1.cell 1
  clear q4
  have HFIN := Lib.hid (show ∀ (W : World), Boxes W B N (.slice (some ⟨b0, o, none⟩) m cap) a n → W.cell? ⟨B + 1 + 1, 0, none⟩ = some (.int .i64 0) ∧ W.cell? ⟨B + 1 + 1, 1, none⟩ = some (.slice none 0 0) ∧ W.frozen? ⟨B + 1 + 1, 0, none⟩ = false ∧ W.frozen? ⟨B + 1 + 1, 1, none⟩ = false from fun W hb => ⟨hb.r0, hb.r1, hb.f0, hb.f1⟩)
  have HGR := Lib.hid (show ∀ (W : World) (u v : Value), Gr [] w W → Gr [] w ((W.setCell ⟨B + 1 + 1, 0, none⟩ u).setCell ⟨B + 1 + 1, 1, none⟩ v) from fun W u v g => (g.setCell (p := ⟨B + 1 + 1, 0, none⟩) (.inr (by rw [HB0.out]; simp only; omega)) _).setCell (p := ⟨B + 1 + 1, 1, none⟩) (.inr (by rw [HB0.out]; simp only; omega)) _)
  have HSG := Lib.hid (show ∀ (W : World) (u v : Value) (ao' : Option Addr) (cap' : Nat), w.heap.size + 3 ≤ W.heap.size → SetIs W N l' ao' cap' → (∀ k o', ao' = some ⟨k, o', none⟩ → w.heap.size + 3 ≤ k) → SetIs ((W.setCell ⟨B + 1 + 1, 0, none⟩ u).setCell ⟨B + 1 + 1, 1, none⟩ v) N l' ao' cap' from fun W u v ao' cap' hz hs hk => by
    refine ⟨hs.runs, hs.hi, ?_, hs.cap1, hs.cap2, hs.none⟩
    intro j x hj
    obtain ⟨b, o', h1, h2, h3, h4⟩ := hs.rd j x hj
    have hne := hk b o' h1
    refine hs.rd.gr (bs := [B + 1 + 1]) (((Gr.refl _ _).setCell (p := ⟨B + 1 + 1, 0, none⟩) (.inl (by simp)) _).setCell (p := ⟨B + 1 + 1, 1, none⟩) (.inl (by simp)) _) (fun k o2 e2 e3 => ?_) j x hj
    rw [h1] at e2
    injection e2 with e2
    injection e2 with e2 e4
    simp at e3
    rw [HB0.out] at hne
    omega)
  by_cases p1 : e.1 < a
  · by_cases p2 : a + n < e.1 + e.2
    · have hp1 : (e.1 : Int) < (a : Int) := by omega
      have hp2 : (a : Int) + (n : Int) < (e.1 : Int) + (e.2 : Int) := by omega
      obtain ⟨d1, hd1⟩ : ∃ d1, d1 = a - e.1 := ⟨_, rfl⟩
      have hd1' : (a : Int) - (e.1 : Int) = (d1 : Int) := by omega
      have HD1 := Lib.hid hd1
      clear hd1
      have HN1 := Lib.hid (Holds.new (w3.alloc (Obj.cells #[.int .i64 e.1, .int .i64 e.2] 35)) #[.int .i64 e.1, .int .i64 d1] 35)
      rw [World.size_alloc] at HN1
      go_wp2_with (at_builtin; refine wpList_append_own _ rfl _ _ 23 rfl (w3.heap.size + 1) 35 i0 _ 2 16 Try.underlying23 hi0 hz0 hz1 hz2 rfl (by decide) _ _ _ rfl (World.ownsRow_nil _ _ _ _) ⟨w3.heap.size + 1, 0, none⟩ 1 1 [.int .i64 e.1, .int .i64 d1] rfl rfl (World.news_of_block HN1.out) (by simp [Value.oneCell']) (by decide) (by decide) (by rw [World.size_alloc, World.size_alloc]; omega) ?_)
      intro v1 w5 hown1 hgrow1 _
      have w5k : Kp (w3.alloc (Obj.cells #[.int .i64 e.1, .int .i64 e.2] 35)) w5 := (((Gr.refl [] (w3.alloc (Obj.cells #[.int .i64 e.1, .int .i64 e.2] 35))).alloc _).grown hgrow1 (fun k hk => by cases hk)).below0
      have HSZ4 := Lib.hid (World.size_alloc w3 (Obj.cells #[.int .i64 e.1, .int .i64 e.2] 35))
      have HO5 := Lib.hid (show w5.ownsRow (w3.heap.size + 1) 35 2 v1 1 (cells2 (zl [(e.1, d1)])) from hown1)
      clear hown1 hgrow1 k1 k2 s0 s1 e0 e1 a0 a1 x0 x1 HN1
      obtain ⟨X, hX⟩ : ∃ X, w3.heap.size = X := ⟨_, rfl⟩
      rw [hX] at HST hsz HO5 HSZ4 ⊢
      clear hX
      have q4 := HST.out w5 w5k
      have e0 := kp_cell q4.1.e0
      have e1 := kp_cell q4.1.e1
      have x0 := kp_cell (show w5.cell? ⟨X, 0, none⟩ = some (.int .i64 e.1) from q4.2.1.cell 0)
      have x1 := kp_cell (show w5.cell? ⟨X, 1, none⟩ = some (.int .i64 e.2) from q4.2.1.cell 1)
      have hne := kp_ne w5
      clear q4
      go_wp2_with fail
      refine wp_region_kp (by kernel_rfl) (by kernel_rfl) ?_
      repeat (go_big_quiet_step ((rename_i x; first
        | exact kp_call x (aend_bel _ _ _ hw1)
        | exact kp_call x (aend_bel _ _ _ hw2))))
      with_reducible refine wpQuiet_nil ?_
      rintro _ ⟨y, rfl⟩
      clear e0 e1 x0 x1 hne
      have w6k := w5k.next y.h
      have HO6 := Lib.hid (own_keep HO5.out y.h)
      generalize y.w = w6 at *
      clear y
      obtain ⟨z, hz⟩ : ∃ z, z = a + n := ⟨_, rfl⟩
      obtain ⟨d2, hd2⟩ : ∃ d2, d2 = e.1 + e.2 - (a + n) := ⟨_, rfl⟩
      have hz' : (a : Int) + (n : Int) = (z : Int) := by omega
      have hd2' : (e.1 : Int) + (e.2 : Int) - (z : Int) = (d2 : Int) := by omega
      have hwd2 : IntKind.i64.wrap (d2 : Int) = (d2 : Int) := IntWalk.i64_in _ (by omega)
      have HZD := Lib.hid (And.intro hz hd2)
      clear hz hd2
      go_wp2_with fail
      have HS6 := Lib.hid (show ∀ W, Kp (w3.alloc (Obj.cells #[.int .i64 e.1, .int .i64 e.2] 35)) W → W.cell? ⟨B + 1, 0, none⟩ = some (.int .i64 a) ∧ W.cell? ⟨B + 1, 1, none⟩ = some (.int .i64 n) ∧ W.cell? ⟨X, 0, none⟩ = some (.int .i64 e.1) ∧ W.cell? ⟨X, 1, none⟩ = some (.int .i64 e.2) from fun W hk => by
        have q := HST.out W hk
        exact ⟨q.1.e0, q.1.e1, q.2.1.cell 0, q.2.1.cell 1⟩)
      have kc := Kp.drew w6
      have sc := HS6.out _ (w6k.next kc)
      go_region_held3 (fun w' : World => w'.cell? ⟨B + 1, 0, none⟩ = some (.int .i64 a) ∧ w'.cell? ⟨B + 1, 1, none⟩ = some (.int .i64 n) ∧ w'.cell? ⟨X, 0, none⟩ = some (.int .i64 e.1) ∧ w'.cell? ⟨X, 1, none⟩ = some (.int .i64 e.2)) (first | assumption | go_keep) ((first
        | (go_at_call 74; refine (aend_bel (a : Int) (n : Int) _ hw2).mono ?_; rintro e' wn ⟨rfl, hb⟩; replace kc := Kp.next kc hb; have sc := HS6.out _ (w6k.next kc); clear hb)
        | (go_at_call 74; refine (aend_bel (e.1 : Int) (e.2 : Int) _ hw1).mono ?_; rintro e' wn ⟨rfl, hb⟩; replace kc := Kp.next kc hb; have sc := HS6.out _ (w6k.next kc); clear hb)
        | (have hb3 : X + 1 ≤ (wn.alloc (Obj.cells #[.int .i64 z, .int .i64 d2] 35)).heap.size := (by have q1 := w6k.size; have q2 := Below.size kc; have q3 := HSZ4.out; rw [World.size_alloc]; omega); have ho3 := (own_keep HO6.out kc).alloc (Obj.cells #[.int .i64 z, .int .i64 d2] 35); have hn3 := World.news_of_block (Holds.new wn #[.int .i64 z, .int .i64 d2] 35); refine step_append_lies _ rfl _ _ 23 rfl (X + 1) 35 i0 _ 2 16 Try.underlying23 hi0 hz0 hz1 hz2 rfl two_pos v1 1 (cells2 (zl [(e.1, d1)])) rfl ho3 ⟨wn.heap.size, 0, none⟩ 1 1 [.int .i64 z, .int .i64 d2] rfl rfl hn3 (one_two z d2) Nat.one_pos small2 small3 hb3 _ rfl ?_; intro g2 cap2 w8 hown2 hgrow2 hat2 hlt2; have w7k := w6k.next kc; have hlt7 := ho3.lt; have w8k := ((w7k.alloc w7k.size (Obj.cells #[.int .i64 z, .int .i64 d2] 35)).grown hgrow2 (Nat.le_trans w7k.size (by rw [World.size_alloc]; omega)) (fun k hk => by have := (hlt7 k hk).1; have := HSZ4.out; omega)); have sc := HS6.out _ w8k; have HO8 := Lib.hid (And.intro hown2 hgrow2); clear hown2 hgrow2 hb3 ho3 hn3 w7k hlt7)))
      have q5 := HST.out w8 w8k
      have s0 := q5.1.s0
      have s1 := q5.1.s1
      have H5 := Lib.hid q5
      have HS5 := Lib.hid (show B + 3 ≤ w8.heap.size by have := q5.1.r.lt; omega)
      clear q5
      go_wp2_with fail
      refine (HW.out _ H5.out.2.2 (X + 1) _ (by rw [show pieces e a n = [(e.1, d1), (z, d2)] by unfold pieces; rw [if_pos p1, if_pos p2, HZD.out.2, HZD.out.1]; rw [HD1.out]; rfl]; exact HO8.out.1)).mono ?_
      rintro e' w9 ⟨ao', cap', rfl, hs, g, hk⟩
      obtain ⟨r0, r1, f0, f1⟩ := HFIN.out w9 (H5.out.1.gr0 g)
      have H6 := Lib.hid (And.intro hs (And.intro g hk))
      clear hs g hk
      go_wp2_with fail
      refine bodyPost_ret (v := .tuple #[.agg #[.int .i64 N, .slice ao' m' cap'], .int .i64 0]) (by simp [results, Try.results18, go_sem, *]) rfl ⟨ao', cap', rfl, ?_, HGR.out _ _ _ (H5.out.2.2.next0 H6.out.2.1), fun k o' e => by have := H6.out.2.2 k o' e; have := HS5.out; rw [HB0.out]; omega⟩
      exact HSG.out _ _ _ _ _ (by have := HS5.out; have := H6.out.2.1.size; rw [HB0.out]; omega) H6.out.1 (fun k o' e => by have := H6.out.2.2 k o' e; have := HS5.out; rw [HB0.out]; omega)
    · have hp1 : (e.1 : Int) < (a : Int) := by omega
      have hp2 : ¬ (a : Int) + (n : Int) < (e.1 : Int) + (e.2 : Int) := by omega
      obtain ⟨d1, hd1⟩ : ∃ d1, d1 = a - e.1 := ⟨_, rfl⟩
      have hd1' : (a : Int) - (e.1 : Int) = (d1 : Int) := by omega
      have HD1 := Lib.hid hd1
      clear hd1
      have HN1 := Lib.hid (Holds.new (w3.alloc (Obj.cells #[.int .i64 e.1, .int .i64 e.2] 35)) #[.int .i64 e.1, .int .i64 d1] 35)
      rw [World.size_alloc] at HN1
      go_wp2_with (at_builtin; refine wpList_append_own _ rfl _ _ 23 rfl (w3.heap.size + 1) 35 i0 _ 2 16 Try.underlying23 hi0 hz0 hz1 hz2 rfl (by decide) _ _ _ rfl (World.ownsRow_nil _ _ _ _) ⟨w3.heap.size + 1, 0, none⟩ 1 1 [.int .i64 e.1, .int .i64 d1] rfl rfl (World.news_of_block HN1.out) (by simp [Value.oneCell']) (by decide) (by decide) (by rw [World.size_alloc, World.size_alloc]; omega) ?_)
      intro v1 w5 hown1 hgrow1 _
      have w5k : Kp (w3.alloc (Obj.cells #[.int .i64 e.1, .int .i64 e.2] 35)) w5 := (((Gr.refl [] (w3.alloc (Obj.cells #[.int .i64 e.1, .int .i64 e.2] 35))).alloc _).grown hgrow1 (fun k hk => by cases hk)).below0
      have HSZ4 := Lib.hid (World.size_alloc w3 (Obj.cells #[.int .i64 e.1, .int .i64 e.2] 35))
      have HO5 := Lib.hid (show w5.ownsRow (w3.heap.size + 1) 35 2 v1 1 (cells2 (zl [(e.1, d1)])) from hown1)
      clear hown1 hgrow1 k1 k2 s0 s1 e0 e1 a0 a1 x0 x1 HN1
      obtain ⟨X, hX⟩ : ∃ X, w3.heap.size = X := ⟨_, rfl⟩
      rw [hX] at HST hsz HO5 HSZ4 ⊢
      clear hX
      have q4 := HST.out w5 w5k
      have e0 := kp_cell q4.1.e0
      have e1 := kp_cell q4.1.e1
      have x0 := kp_cell (show w5.cell? ⟨X, 0, none⟩ = some (.int .i64 e.1) from q4.2.1.cell 0)
      have x1 := kp_cell (show w5.cell? ⟨X, 1, none⟩ = some (.int .i64 e.2) from q4.2.1.cell 1)
      have hne := kp_ne w5
      clear q4
      go_wp2_with fail
      refine wp_region_kp (by kernel_rfl) (by kernel_rfl) ?_
      repeat (go_big_quiet_step ((rename_i x; first
        | exact kp_call x (aend_bel _ _ _ hw1)
        | exact kp_call x (aend_bel _ _ _ hw2))))
      with_reducible refine wpQuiet_nil ?_
      rintro _ ⟨y, rfl⟩
      clear e0 e1 x0 x1 hne
      have w6k := w5k.next y.h
      have HO6 := Lib.hid (own_keep HO5.out y.h)
      generalize y.w = w6 at *
      clear y
      have q5 := HST.out w6 w6k
      have s0 := q5.1.s0
      have s1 := q5.1.s1
      have H5 := Lib.hid q5
      have HS5 := Lib.hid (show B + 3 ≤ w6.heap.size by have := q5.1.r.lt; omega)
      clear q5
      go_wp2_with fail
      refine (HW.out _ H5.out.2.2 (X + 1) _ (by rw [show pieces e a n = [(e.1, d1)] by unfold pieces; rw [if_pos p1, if_neg (by omega)]; rw [HD1.out]; rfl]; exact HO6.out)).mono ?_
      rintro e' w9 ⟨ao', cap', rfl, hs, g, hk⟩
      obtain ⟨r0, r1, f0, f1⟩ := HFIN.out w9 (H5.out.1.gr0 g)
      have H6 := Lib.hid (And.intro hs (And.intro g hk))
      clear hs g hk
      go_wp2_with fail
      refine bodyPost_ret (v := .tuple #[.agg #[.int .i64 N, .slice ao' m' cap'], .int .i64 0]) (by simp [results, Try.results18, go_sem, *]) rfl ⟨ao', cap', rfl, ?_, HGR.out _ _ _ (H5.out.2.2.next0 H6.out.2.1), fun k o' e => by have := H6.out.2.2 k o' e; have := HS5.out; rw [HB0.out]; omega⟩
      exact HSG.out _ _ _ _ _ (by have := HS5.out; have := H6.out.2.1.size; rw [HB0.out]; omega) H6.out.1 (fun k o' e => by have := H6.out.2.2 k o' e; have := HS5.out; rw [HB0.out]; omega)
  · by_cases p2 : a + n < e.1 + e.2
    · have hp1 : ¬ (e.1 : Int) < (a : Int) := by omega
      have hp2 : (a : Int) + (n : Int) < (e.1 : Int) + (e.2 : Int) := by omega
      go_wp2_with fail
      clear k1 k2 s0 s1 e0 e1 a0 a1 x0 x1
      have w5k := Kp.refl (w3.alloc (Obj.cells #[.int .i64 e.1, .int .i64 e.2] 35))
      have HSZ4 := Lib.hid (World.size_alloc w3 (Obj.cells #[.int .i64 e.1, .int .i64 e.2] 35))
      generalize hw5 : w3.alloc (Obj.cells #[.int .i64 e.1, .int .i64 e.2] 35) = w5 at w5k HST HSZ4 ⊢
      clear hw5
      have HO5 := Lib.hid (show w5.ownsRow (w3.heap.size + 1) 35 2 (.slice none 0 0) 0 (cells2 (zl [])) from World.ownsRow_nil _ _ _ _)
      obtain ⟨X, hX⟩ : ∃ X, w3.heap.size = X := ⟨_, rfl⟩
      rw [hX] at HST hsz HO5 HSZ4 ⊢
      clear hX
      have q4 := HST.out w5 w5k
      have e0 := kp_cell q4.1.e0
      have e1 := kp_cell q4.1.e1
      have x0 := kp_cell (show w5.cell? ⟨X, 0, none⟩ = some (.int .i64 e.1) from q4.2.1.cell 0)
      have x1 := kp_cell (show w5.cell? ⟨X, 1, none⟩ = some (.int .i64 e.2) from q4.2.1.cell 1)
      have hne := kp_ne w5
      clear q4
      refine wp_region_kp (by kernel_rfl) (by kernel_rfl) ?_
      repeat (go_big_quiet_step ((rename_i x; first
        | exact kp_call x (aend_bel _ _ _ hw1)
        | exact kp_call x (aend_bel _ _ _ hw2))))
      with_reducible refine wpQuiet_nil ?_
      rintro _ ⟨y, rfl⟩
      clear e0 e1 x0 x1 hne
      have w6k := w5k.next y.h
      have HO6 := Lib.hid (own_keep HO5.out y.h)
      generalize y.w = w6 at *
      clear y
      obtain ⟨z, hz⟩ : ∃ z, z = a + n := ⟨_, rfl⟩
      obtain ⟨d2, hd2⟩ : ∃ d2, d2 = e.1 + e.2 - (a + n) := ⟨_, rfl⟩
      have hz' : (a : Int) + (n : Int) = (z : Int) := by omega
      have hd2' : (e.1 : Int) + (e.2 : Int) - (z : Int) = (d2 : Int) := by omega
      have hwd2 : IntKind.i64.wrap (d2 : Int) = (d2 : Int) := IntWalk.i64_in _ (by omega)
      have HZD := Lib.hid (And.intro hz hd2)
      clear hz hd2
      go_wp2_with fail
      have HS6 := Lib.hid (show ∀ W, Kp w5 W → W.cell? ⟨B + 1, 0, none⟩ = some (.int .i64 a) ∧ W.cell? ⟨B + 1, 1, none⟩ = some (.int .i64 n) ∧ W.cell? ⟨X, 0, none⟩ = some (.int .i64 e.1) ∧ W.cell? ⟨X, 1, none⟩ = some (.int .i64 e.2) from fun W hk => by
        have q := HST.out W hk
        exact ⟨q.1.e0, q.1.e1, q.2.1.cell 0, q.2.1.cell 1⟩)
      have kc := Kp.drew w6
      have sc := HS6.out _ (w6k.next kc)
      go_region_held3 (fun w' : World => w'.cell? ⟨B + 1, 0, none⟩ = some (.int .i64 a) ∧ w'.cell? ⟨B + 1, 1, none⟩ = some (.int .i64 n) ∧ w'.cell? ⟨X, 0, none⟩ = some (.int .i64 e.1) ∧ w'.cell? ⟨X, 1, none⟩ = some (.int .i64 e.2)) (first | assumption | go_keep) ((first
        | (go_at_call 74; refine (aend_bel (a : Int) (n : Int) _ hw2).mono ?_; rintro e' wn ⟨rfl, hb⟩; replace kc := Kp.next kc hb; have sc := HS6.out _ (w6k.next kc); clear hb)
        | (go_at_call 74; refine (aend_bel (e.1 : Int) (e.2 : Int) _ hw1).mono ?_; rintro e' wn ⟨rfl, hb⟩; replace kc := Kp.next kc hb; have sc := HS6.out _ (w6k.next kc); clear hb)
        | (have hb3 : X + 1 ≤ (wn.alloc (Obj.cells #[.int .i64 z, .int .i64 d2] 35)).heap.size := (by have q1 := w6k.size; have q2 := Below.size kc; have q3 := HSZ4.out; rw [World.size_alloc]; omega); have ho3 := (own_keep HO6.out kc).alloc (Obj.cells #[.int .i64 z, .int .i64 d2] 35); have hn3 := World.news_of_block (Holds.new wn #[.int .i64 z, .int .i64 d2] 35); refine step_append_lies _ rfl _ _ 23 rfl (X + 1) 35 i0 _ 2 16 Try.underlying23 hi0 hz0 hz1 hz2 rfl two_pos (.slice none 0 0) 0 (cells2 (zl [])) rfl ho3 ⟨wn.heap.size, 0, none⟩ 1 1 [.int .i64 z, .int .i64 d2] rfl rfl hn3 (one_two z d2) Nat.one_pos small2' small3' hb3 _ rfl ?_; intro g2 cap2 w8 hown2 hgrow2 hat2 hlt2; have w7k := w6k.next kc; have hlt7 := ho3.lt; have w8k := ((w7k.alloc w7k.size (Obj.cells #[.int .i64 z, .int .i64 d2] 35)).grown hgrow2 (Nat.le_trans w7k.size (by rw [World.size_alloc]; omega)) (fun k hk => by have := (hlt7 k hk).1; have := HSZ4.out; omega)); have sc := HS6.out _ w8k; have HO8 := Lib.hid (And.intro hown2 hgrow2); clear hown2 hgrow2 hb3 ho3 hn3 w7k hlt7)))
      have q5 := HST.out w8 w8k
      have s0 := q5.1.s0
      have s1 := q5.1.s1
      have H5 := Lib.hid q5
      have HS5 := Lib.hid (show B + 3 ≤ w8.heap.size by have := q5.1.r.lt; omega)
      clear q5
      go_wp2_with fail
      refine (HW.out _ H5.out.2.2 (X + 1) _ (by rw [show pieces e a n = [(z, d2)] by unfold pieces; rw [if_neg (by omega), if_pos p2, HZD.out.2, HZD.out.1]; rfl]; exact HO8.out.1)).mono ?_
      rintro e' w9 ⟨ao', cap', rfl, hs, g, hk⟩
      obtain ⟨r0, r1, f0, f1⟩ := HFIN.out w9 (H5.out.1.gr0 g)
      have H6 := Lib.hid (And.intro hs (And.intro g hk))
      clear hs g hk
      go_wp2_with fail
      refine bodyPost_ret (v := .tuple #[.agg #[.int .i64 N, .slice ao' m' cap'], .int .i64 0]) (by simp [results, Try.results18, go_sem, *]) rfl ⟨ao', cap', rfl, ?_, HGR.out _ _ _ (H5.out.2.2.next0 H6.out.2.1), fun k o' e => by have := H6.out.2.2 k o' e; have := HS5.out; rw [HB0.out]; omega⟩
      exact HSG.out _ _ _ _ _ (by have := HS5.out; have := H6.out.2.1.size; rw [HB0.out]; omega) H6.out.1 (fun k o' e => by have := H6.out.2.2 k o' e; have := HS5.out; rw [HB0.out]; omega)
    · have hp1 : ¬ (e.1 : Int) < (a : Int) := by omega
      have hp2 : ¬ (a : Int) + (n : Int) < (e.1 : Int) + (e.2 : Int) := by omega
      go_wp2_with fail
      clear k1 k2 s0 s1 e0 e1 a0 a1 x0 x1
      have w5k := Kp.refl (w3.alloc (Obj.cells #[.int .i64 e.1, .int .i64 e.2] 35))
      have HSZ4 := Lib.hid (World.size_alloc w3 (Obj.cells #[.int .i64 e.1, .int .i64 e.2] 35))
      generalize hw5 : w3.alloc (Obj.cells #[.int .i64 e.1, .int .i64 e.2] 35) = w5 at w5k HST HSZ4 ⊢
      clear hw5
      have HO5 := Lib.hid (show w5.ownsRow (w3.heap.size + 1) 35 2 (.slice none 0 0) 0 (cells2 (zl [])) from World.ownsRow_nil _ _ _ _)
      obtain ⟨X, hX⟩ : ∃ X, w3.heap.size = X := ⟨_, rfl⟩
      rw [hX] at HST hsz HO5 HSZ4 ⊢
      clear hX
      have q4 := HST.out w5 w5k
      have e0 := kp_cell q4.1.e0
      have e1 := kp_cell q4.1.e1
      have x0 := kp_cell (show w5.cell? ⟨X, 0, none⟩ = some (.int .i64 e.1) from q4.2.1.cell 0)
      have x1 := kp_cell (show w5.cell? ⟨X, 1, none⟩ = some (.int .i64 e.2) from q4.2.1.cell 1)
      have hne := kp_ne w5
      clear q4
      refine wp_region_kp (by kernel_rfl) (by kernel_rfl) ?_
      repeat (go_big_quiet_step ((rename_i x; first
        | exact kp_call x (aend_bel _ _ _ hw1)
        | exact kp_call x (aend_bel _ _ _ hw2))))
      with_reducible refine wpQuiet_nil ?_
      rintro _ ⟨y, rfl⟩
      clear e0 e1 x0 x1 hne
      have w6k := w5k.next y.h
      have HO6 := Lib.hid (own_keep HO5.out y.h)
      generalize y.w = w6 at *
      clear y
      have q5 := HST.out w6 w6k
      have s0 := q5.1.s0
      have s1 := q5.1.s1
      have H5 := Lib.hid q5
      have HS5 := Lib.hid (show B + 3 ≤ w6.heap.size by have := q5.1.r.lt; omega)
      clear q5
      go_wp2_with fail
      refine (HW.out _ H5.out.2.2 (X + 1) _ (by rw [show pieces e a n = [] by unfold pieces; rw [if_neg (by omega), if_neg (by omega)]; rfl]; exact HO6.out)).mono ?_
      rintro e' w9 ⟨ao', cap', rfl, hs, g, hk⟩
      obtain ⟨r0, r1, f0, f1⟩ := HFIN.out w9 (H5.out.1.gr0 g)
      have H6 := Lib.hid (And.intro hs (And.intro g hk))
      clear hs g hk
      go_wp2_with fail
      refine bodyPost_ret (v := .tuple #[.agg #[.int .i64 N, .slice ao' m' cap'], .int .i64 0]) (by simp [results, Try.results18, go_sem, *]) rfl ⟨ao', cap', rfl, ?_, HGR.out _ _ _ (H5.out.2.2.next0 H6.out.2.1), fun k o' e => by have := H6.out.2.2 k o' e; have := HS5.out; rw [HB0.out]; omega⟩
      exact HSG.out _ _ _ _ _ (by have := HS5.out; have := H6.out.2.1.size; rw [HB0.out]; omega) H6.out.1 (fun k o' e => by have := H6.out.2.2 k o' e; have := HS5.out; rw [HB0.out]; omega)

end Go.Proofs.Ytpkhfdcokcchdaa
