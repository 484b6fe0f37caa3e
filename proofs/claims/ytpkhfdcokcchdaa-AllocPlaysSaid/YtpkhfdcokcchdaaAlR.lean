/-
  alloc: Give's answers.
-/
import Derived.Test.YtpkhfdcokcchdaaAlF
import Derived.Test.YtpkhfdcokcchdaaAlO
namespace Go.Proofs.Ytpkhfdcokcchdaa
open Go.RowKit

theorem rd_one {w : World} {bx x L : Nat} (c0 : w.cell? ⟨bx, 0, none⟩ = some (.int .i64 (x : Int))) (c1 : w.cell? ⟨bx, 1, none⟩ = some (.int .i64 (L : Int))) : Rd2 w (some ⟨bx, 0, none⟩) (zl [(x, L)]) := by
  intro i y hy
  match i, hy with
  | 0, hy => simp [zl] at hy; subst hy; exact ⟨bx, 0, rfl, World.block_lt_of_cell? w _ c0, c0, c1⟩
  | i + 1, hy => simp [zl] at hy
/-- with, by one extent. -/
theorem awith_one (N f t m : Nat) (l RL : List (Nat × Nat)) (ao : Option Addr) (cap x L bx : Nat) (w : World) (h : SetIs w N l ao cap) (hf : f ≤ l.length) (ht : t ≤ l.length)
    (c0 : w.cell? ⟨bx, 0, none⟩ = some (.int .i64 (x : Int))) (c1 : w.cell? ⟨bx, 1, none⟩ = some (.int .i64 (L : Int))) (hRL : RL = l.take f ++ [(x, L)] ++ l.drop t) (hm : m = RL.length) (hr : RunsF 0 N RL) :
    Calls Try.prog 75 #[.agg #[.int .i64 N, .slice ao l.length cap], .int .i64 f, .int .i64 t, .slice (some ⟨bx, 0, none⟩) 1 1] w fun e w' =>
      ∃ ao' cap', e = .returned (.agg #[.int .i64 N, .slice ao' m cap']) ∧ SetIs w' N RL ao' cap' ∧ Gr [] w w' ∧ ∀ k o', ao' = some ⟨k, o', none⟩ → w.heap.size ≤ k := by
  have r2 := rd_one c0 c1
  have hN := h.hi
  have fin : ∀ (e : Ending) (w' : World), (∃ ao' cap', e = .returned (.agg #[.int .i64 N, .slice ao' m cap']) ∧ Sl2 w' (.slice ao' m cap') (zl RL) ∧ Gr [] w w' ∧ ∀ k o', ao' = some ⟨k, o', none⟩ → w.heap.size ≤ k) →
      ∃ ao' cap', e = .returned (.agg #[.int .i64 N, .slice ao' m cap']) ∧ SetIs w' N RL ao' cap' ∧ Gr [] w w' ∧ ∀ k o', ao' = some ⟨k, o', none⟩ → w.heap.size ≤ k := by
    rintro e w' ⟨ao', cap', rfl, hs', g, hk⟩
    subst hm
    exact ⟨ao', cap', rfl, setOf hr hN hs', g, hk⟩
  cases hl : l with
  | nil =>
    subst hl
    have f0 : f = 0 := by simpa using hf
    have t0 : t = 0 := by simpa using ht
    subst f0 t0
    cases ao with
    | none =>
      have := h.none rfl
      subst this
      exact (awith_none N m RL (some ⟨bx, 0, none⟩) [(x, L)] 1 w r2 (by simp) (fun e => by cases e) (by simp) (by rw [hRL]; rfl) hm).mono fin
    | some a0 => exact (awith_empty a0 cap N m RL (some ⟨bx, 0, none⟩) [(x, L)] 1 w r2 (by simp) (fun e => by cases e) (by simp) (by rw [hRL]; rfl) hm).mono fin
  | cons e0 r0 =>
    obtain ⟨b, o, hao, -⟩ := h.at (i := 0) (e := e0) (by rw [hl]; rfl)
    subst hao
    rw [← hl]
    exact (awith_some N f t m l RL b o cap (some ⟨bx, 0, none⟩) [(x, L)] 1 w h hf ht r2 (by simp) (fun e => by cases e) (by simp) hRL hm).mono fin

set_option maxHeartbeats 2000000 in
set_option maxRecDepth 20000 in
theorem agive_arg (N : Nat) (l : List (Nat × Nat)) (ao : Option Addr) (cap : Nat) (a n : Int) (w : World) (h : SetIs w N l ao cap) (hno : ¬ okE N a n) :
    Calls Try.prog 20 #[.agg #[.int .i64 N, .slice ao l.length cap], .agg #[.int .i64 a, .int .i64 n]] w fun e w' => e = .returned (.tuple #[.agg #[.int .i64 0, .slice none 0 0], .int .i64 2]) ∧ Gr [] w w' := by
  have HR := Lib.hid (fun W => aright_any N (.slice ao l.length cap) a n W h.hi)
  rw [decide_eq_false hno] at HR
  have HG := Lib.hid ((((Gr.refl [] w).alloc (Obj.cells #[.int .i64 N, .slice ao l.length cap] 25)).alloc (Obj.cells #[.int .i64 a, .int .i64 n] 35)).alloc (Obj.cells #[.int .i64 0, .slice none 0 0] 25))
  clear h hno
  obtain ⟨m, hm⟩ : ∃ m, m = l.length := ⟨_, rfl⟩
  rw [← hm] at HG HR ⊢
  clear hm
  have HX := Lib.hid (Holds.new ((w.alloc (Obj.cells #[.int .i64 N, .slice ao m cap] 25)).alloc (Obj.cells #[.int .i64 a, .int .i64 n] 35)) #[.int .i64 0, .slice none 0 0] 25)
  go_enter Try.func20, Try.ntmps20
  go_wp2_with fail
  refine (HR.out _).mono ?_
  rintro e' w' ⟨rfl, g⟩
  have X := HX.out.gr0 g
  simp only [World.size_alloc] at X
  have x0 : w'.cell? ⟨w.heap.size + 1 + 1, 0, none⟩ = some (.int .i64 0) := X.cell 0
  have x1 : w'.cell? ⟨w.heap.size + 1 + 1, 1, none⟩ = some (.slice none 0 0) := X.cell 1
  have f0 := X.frozen 0
  have f1 := X.frozen 1
  have HG2 := Lib.hid ((HG.out.next0 g).setCell (p := ⟨w.heap.size + 1 + 1, 0, none⟩) (.inr (by simp only; omega)) (.int .i64 0))
  have HG3 := Lib.hid (HG2.out.setCell (p := ⟨w.heap.size + 1 + 1, 1, none⟩) (.inr (by simp only; omega)) (.slice none 0 0))
  clear X g
  go_wp2_with fail
  exact bodyPost_ret (v := .tuple #[.agg #[.int .i64 0, .slice none 0 0], .int .i64 2]) (by simp [results, Try.results20, go_sem, *]) rfl ⟨rfl, HG3.out⟩

theorem give_none {l : List (Nat × Nat)} {a n i : Nat} (hi : i = fromI l (a : Int)) (hu : giveL l a n = none) : ∃ e, l[i]? = some e ∧ e.1 < a + n := by
  unfold giveL at hu
  simp only at hu
  rw [← hi] at hu
  cases q : l[i]? with
  | none => rw [q] at hu; cases hu
  | some e =>
    rw [q] at hu
    simp only at hu
    by_cases c : e.1 < a + n
    · exact ⟨e, rfl, c⟩
    · rw [if_neg c] at hu; cases hu
set_option maxHeartbeats 1000000 in
set_option maxRecDepth 20000 in
theorem agive_none (N : Nat) (l : List (Nat × Nat)) (ao : Option Addr) (cap : Nat) (a n : Nat) (w : World) (h : SetIs w N l ao cap) (hok : okE N a n) (hu : giveL l a n = none) :
    Calls Try.prog 20 #[.agg #[.int .i64 N, .slice ao l.length cap], .agg #[.int .i64 a, .int .i64 n]] w fun e w' => e = .returned (.tuple #[.agg #[.int .i64 0, .slice none 0 0], .int .i64 8]) ∧ Gr [] w w' := by
  have HR := Lib.hid (fun W => aright_any N (.slice ao l.length cap) a n W h.hi)
  rw [decide_eq_true hok] at HR
  have HF := Lib.hid (fun (W : World) (g : Gr [] w W) => afrom_any N l ao cap a W (h.gr0 g))
  have HG := Lib.hid ((((Gr.refl [] w).alloc (Obj.cells #[.int .i64 N, .slice ao l.length cap] 25)).alloc (Obj.cells #[.int .i64 a, .int .i64 n] 35)).alloc (Obj.cells #[.int .i64 0, .slice none 0 0] 25))
  have HB := Lib.hid (Boxes.new w N (.slice ao l.length cap) a n)
  have HS := Lib.hid h
  have hle := fromI_le l (a : Int)
  have hlen := h.len
  have hhi := h.hi
  unfold okE at hok
  clear h
  obtain ⟨i, hi⟩ : ∃ i, i = fromI l (a : Int) := ⟨_, rfl⟩
  obtain ⟨m, hm⟩ : ∃ m, m = l.length := ⟨_, rfl⟩
  rw [← hm] at HG HR HF HB hle hlen ⊢
  obtain ⟨e, he, hea⟩ := give_none hi hu
  clear hu
  rw [← hi] at HF hle
  have hm' := hm
  clear hi
  have hil : i < m := by rw [hm']; exact (List.getElem?_eq_some_iff.1 he).1
  have HN := Lib.hid (And.intro hm he)
  clear hm hm' he
  go_enter Try.func20, Try.ntmps20
  go_wp2_with fail
  refine (HR.out _).mono ?_
  rintro e' w1 ⟨rfl, g1⟩
  have b1 := HB.out.gr0 g1
  have G1 := HG.out.next0 g1
  have s0 := b1.s0
  have s1 := b1.s1
  have e0 := b1.e0
  have e1 := b1.e1
  have HK := Lib.hid (And.intro b1 G1)
  clear b1 G1 g1
  go_wp2_with fail
  refine (HF.out _ HK.out.2).mono ?_
  rintro e' w2 ⟨rfl, g2⟩
  have b2 := HK.out.1.gr0 g2
  have G2 := HK.out.2.next0 g2
  clear s0 s1 e0 e1 g2
  have s0 := kp_cell b2.s0
  have s1 := kp_cell b2.s1
  have e0 := kp_cell b2.e0
  have e1 := kp_cell b2.e1
  have HK2 := Lib.hid (And.intro b2 G2)
  clear b2 G2 HK HR HF
  go_wp2_with fail
  have hne := kp_ne w2
  have HEND := Lib.hid (show ∀ y : Cls (Kp w2), Boxes y.w w.heap.size N (.slice ao m cap) a n ∧ Gr [] w y.w from fun y => ⟨HK2.out.1.below y.h, HK2.out.2.nextB y.h⟩)
  generalize hB0 : w.heap.size = B at *
  have HB0 := Lib.hid hB0
  clear hB0
  obtain ⟨b0, o, hao, hb, c1, c2⟩ := (HS.out.gr0 HK2.out.2).at HN.out.2
  have q := HS.out.mem HN.out.2
  subst hao
  have k1 := kp_cell c1
  have hd : (i : Int) < (m : Int) := by omega
  have hw2 : IntKind.i64.wrap ((a : Int) + (n : Int)) = (a : Int) + (n : Int) := IntWalk.i64_in _ (by omega)
  have hlt2 : (e.1 : Int) < (a : Int) + (n : Int) := by omega
  clear c1 c2
  refine wp_region_kp (by kernel_rfl) (by kernel_rfl) ?_
  repeat (go_big_quiet_step ((rename_i x; exact kp_call x (aend_bel _ _ _ hw2))))
  with_reducible refine wpQuiet_nil ?_
  rintro _ ⟨y, rfl⟩
  have b3 := (HEND.out y).1
  have r0 := b3.r0
  have r1 := b3.r1
  have f0 := b3.f0
  have f1 := b3.f1
  clear b3 s0 s1 e0 e1 k1
  go_wp2_with fail
  exact bodyPost_ret (v := .tuple #[.agg #[.int .i64 0, .slice none 0 0], .int .i64 8]) (by simp [results, Try.results20, go_sem, *]) rfl
    ⟨rfl, ((HEND.out y).2.setCell (p := ⟨B + 1 + 1, 0, none⟩) (.inr (by rw [HB0.out]; simp only; omega)) _).setCell (p := ⟨B + 1 + 1, 1, none⟩) (.inr (by rw [HB0.out]; simp only; omega)) _⟩

end Go.Proofs.Ytpkhfdcokcchdaa
