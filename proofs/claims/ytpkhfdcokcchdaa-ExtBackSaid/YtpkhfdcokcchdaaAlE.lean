/-
  alloc: Use.
-/
import Derived.Test.YtpkhfdcokcchdaaAlD
namespace Go.Proofs.Ytpkhfdcokcchdaa
open Go.RowKit

/-- An answer without a set. -/
def noSet : Value := .agg #[.int .i64 0, .slice none 0 0]
set_option maxHeartbeats 2000000 in
set_option maxRecDepth 20000 in
theorem ause_arg (N : Nat) (l : List (Nat × Nat)) (ao : Option Addr) (cap : Nat) (a n : Int) (w : World) (h : SetIs w N l ao cap) (hno : ¬ okE N a n) :
    Calls Try.prog 18 #[.agg #[.int .i64 N, .slice ao l.length cap], .agg #[.int .i64 a, .int .i64 n]] w fun e w' => e = .returned (.tuple #[.agg #[.int .i64 0, .slice none 0 0], .int .i64 2]) ∧ Gr [] w w' := by
  have HR := Lib.hid (fun W => aright_any N (.slice ao l.length cap) a n W h.hi)
  rw [decide_eq_false hno] at HR
  have HG := Lib.hid ((((Gr.refl [] w).alloc (Obj.cells #[.int .i64 N, .slice ao l.length cap] 25)).alloc (Obj.cells #[.int .i64 a, .int .i64 n] 35)).alloc (Obj.cells #[.int .i64 0, .slice none 0 0] 25))
  clear h hno
  obtain ⟨m, hm⟩ : ∃ m, m = l.length := ⟨_, rfl⟩
  rw [← hm] at HG HR ⊢
  clear hm
  have HX := Lib.hid (Holds.new ((w.alloc (Obj.cells #[.int .i64 N, .slice ao m cap] 25)).alloc (Obj.cells #[.int .i64 a, .int .i64 n] 35)) #[.int .i64 0, .slice none 0 0] 25)
  go_enter Try.func18, Try.ntmps18
  go_wp2_with fail
  refine (HR.out _).mono ?_
  rintro e' w' ⟨rfl, g⟩
  have X := HX.out.gr0 g
  simp only [World.size_alloc] at X
  have x0 : w'.cell? ⟨w.heap.size + 1 + 1, 0, none⟩ = some (.int .i64 0) := X.cell 0
  have x1 : w'.cell? ⟨w.heap.size + 1 + 1, 1, none⟩ = some (.slice none 0 0) := X.cell 1
  have f0 := X.frozen 0
  have f1 := X.frozen 1
  have HG2 := Lib.hid ((HG.out.next0 g).setCell (p := ⟨w.heap.size + 1 + 1, 0, none⟩) (.inr (by simp only; omega)) (.int .i64 0))
  have HG3 := Lib.hid (HG2.out.setCell (p := ⟨w.heap.size + 1 + 1, 1, none⟩) (.inr (by simp only; omega)) (.slice none 0 0))
  clear X g
  go_wp2_with fail
  exact bodyPost_ret (v := .tuple #[.agg #[.int .i64 0, .slice none 0 0], .int .i64 2]) (by simp [results, Try.results18, go_sem, *]) rfl ⟨rfl, HG3.out⟩

/-- The variables of a call: the set, the extent, the result. -/
structure Boxes (W : World) (B N : Nat) (sl : Value) (a n : Int) : Prop where
  s : Holds W B #[.int .i64 N, sl] 25
  e : Holds W (B + 1) #[.int .i64 a, .int .i64 n] 35
  r : Holds W (B + 2) #[.int .i64 0, .slice none 0 0] 25
theorem Boxes.below {W W' : World} {B N : Nat} {sl : Value} {a n : Int} (h : Boxes W B N sl a n) (g : Below W.heap.size W W') : Boxes W' B N sl a n := ⟨h.s.below g, h.e.below g, h.r.below g⟩
theorem Boxes.gr0 {W W' : World} {B N : Nat} {sl : Value} {a n : Int} (h : Boxes W B N sl a n) (g : Gr [] W W') : Boxes W' B N sl a n := ⟨h.s.gr0 g, h.e.gr0 g, h.r.gr0 g⟩
theorem Boxes.new (w : World) (N : Nat) (sl : Value) (a n : Int) :
    Boxes (((w.alloc (Obj.cells #[.int .i64 N, sl] 25)).alloc (Obj.cells #[.int .i64 a, .int .i64 n] 35)).alloc (Obj.cells #[.int .i64 0, .slice none 0 0] 25)) w.heap.size N sl a n := by
  have h1 := Holds.new w #[.int .i64 N, sl] 25
  have h2 := Holds.new (w.alloc (Obj.cells #[.int .i64 N, sl] 25)) #[.int .i64 a, .int .i64 n] 35
  have h3 := Holds.new ((w.alloc (Obj.cells #[.int .i64 N, sl] 25)).alloc (Obj.cells #[.int .i64 a, .int .i64 n] 35)) #[.int .i64 0, .slice none 0 0] 25
  simp only [World.size_alloc] at h2 h3
  exact ⟨(h1.alloc _).alloc _, h2.alloc _, h3⟩
section
variable {W : World} {B N : Nat} {sl : Value} {a n : Int}
theorem Boxes.s0 (h : Boxes W B N sl a n) : W.cell? ⟨B, 0, none⟩ = some (.int .i64 N) := h.s.cell 0
theorem Boxes.s1 (h : Boxes W B N sl a n) : W.cell? ⟨B, 1, none⟩ = some sl := h.s.cell 1
theorem Boxes.e0 (h : Boxes W B N sl a n) : W.cell? ⟨B + 1, 0, none⟩ = some (.int .i64 a) := h.e.cell 0
theorem Boxes.e1 (h : Boxes W B N sl a n) : W.cell? ⟨B + 1, 1, none⟩ = some (.int .i64 n) := h.e.cell 1
theorem Boxes.r0 (h : Boxes W B N sl a n) : W.cell? ⟨B + 2, 0, none⟩ = some (.int .i64 0) := h.r.cell 0
theorem Boxes.r1 (h : Boxes W B N sl a n) : W.cell? ⟨B + 2, 1, none⟩ = some (.slice none 0 0) := h.r.cell 1
theorem Boxes.f0 (h : Boxes W B N sl a n) : W.frozen? ⟨B + 2, 0, none⟩ = false := h.r.frozen 0
theorem Boxes.f1 (h : Boxes W B N sl a n) : W.frozen? ⟨B + 2, 1, none⟩ = false := h.r.frozen 1
end

set_option maxHeartbeats 1000000 in
set_option maxRecDepth 20000 in
theorem ause_none (N : Nat) (l : List (Nat × Nat)) (ao : Option Addr) (cap : Nat) (a n : Nat) (w : World) (h : SetIs w N l ao cap) (hok : okE N a n) (hu : useL l a n = none) :
    Calls Try.prog 18 #[.agg #[.int .i64 N, .slice ao l.length cap], .agg #[.int .i64 a, .int .i64 n]] w fun e w' => e = .returned (.tuple #[.agg #[.int .i64 0, .slice none 0 0], .int .i64 8]) ∧ Gr [] w w' := by
  have HR := Lib.hid (fun W => aright_any N (.slice ao l.length cap) a n W h.hi)
  rw [decide_eq_true hok] at HR
  have HF := Lib.hid (fun (W : World) (g : Gr [] w W) => afrom_any N l ao cap a W (h.gr0 g))
  have HG := Lib.hid ((((Gr.refl [] w).alloc (Obj.cells #[.int .i64 N, .slice ao l.length cap] 25)).alloc (Obj.cells #[.int .i64 a, .int .i64 n] 35)).alloc (Obj.cells #[.int .i64 0, .slice none 0 0] 25))
  have HB := Lib.hid (Boxes.new w N (.slice ao l.length cap) a n)
  have HS := Lib.hid h
  have hle := fromI_le l (a : Int)
  have hlen := h.len
  have hhi := h.hi
  rw [useL_from] at hu
  unfold okE at hok
  clear h
  obtain ⟨i, hi⟩ : ∃ i, i = fromI l (a : Int) := ⟨_, rfl⟩
  obtain ⟨m, hm⟩ : ∃ m, m = l.length := ⟨_, rfl⟩
  rw [← hm] at HG HR HF HB hle hlen ⊢
  rw [← hi] at HF hle hu
  have HN := Lib.hid hm
  clear hm hi
  have HU := Lib.hid hu
  clear hu
  go_enter Try.func18, Try.ntmps18
  go_wp2_with fail
  refine (HR.out _).mono ?_
  rintro e' w1 ⟨rfl, g1⟩
  have b1 := HB.out.gr0 g1
  have G1 := HG.out.next0 g1
  have s0 := b1.s0
  have s1 := b1.s1
  have e0 := b1.e0
  have e1 := b1.e1
  have HK := Lib.hid (And.intro b1 G1)
  clear b1 G1 g1
  go_wp2_with fail
  refine (HF.out _ HK.out.2).mono ?_
  rintro e' w2 ⟨rfl, g2⟩
  have b2 := HK.out.1.gr0 g2
  have G2 := HK.out.2.next0 g2
  clear s0 s1 e0 e1 g2
  have s0 := kp_cell b2.s0
  have s1 := kp_cell b2.s1
  have e0 := kp_cell b2.e0
  have e1 := kp_cell b2.e1
  have HK2 := Lib.hid (And.intro b2 G2)
  clear b2 G2 HK HR HF
  go_wp2_with fail
  have hne := kp_ne w2
  have HEND := Lib.hid (show ∀ y : Cls (Kp w2), Boxes y.w w.heap.size N (.slice ao m cap) a n ∧ Gr [] w y.w from fun y => ⟨HK2.out.1.below y.h, HK2.out.2.nextB y.h⟩)
  generalize hB0 : w.heap.size = B at *
  have HB0 := Lib.hid hB0
  clear hB0
  by_cases hlt : i < m
  · obtain ⟨e, he⟩ : ∃ e, l[i]? = some e := ⟨_, List.getElem?_eq_getElem (by have := HN.out; omega)⟩
    obtain ⟨b0, o, hao, hb, c1, c2⟩ := (HS.out.gr0 HK2.out.2).at he
    have q := HS.out.mem he
    have hu := HU.out
    rw [he] at hu
    simp only at hu
    have hu2 : ¬ (e.1 ≤ a ∧ a + n ≤ e.1 + e.2) := fun hc => by rw [if_pos hc] at hu; cases hu
    subst hao
    have k1 := kp_cell c1
    have k2 := kp_cell c2
    have hd : ((i : Int) == (m : Int)) = false := by simp; omega
    clear c1 c2 hu he
    by_cases ha : e.1 ≤ a
    · have hw1 : IntKind.i64.wrap ((e.1 : Int) + (e.2 : Int)) = (e.1 : Int) + (e.2 : Int) := IntWalk.i64_in _ (by omega)
      have hw2 : IntKind.i64.wrap ((a : Int) + (n : Int)) = (a : Int) + (n : Int) := IntWalk.i64_in _ (by omega)
      have hlt2 : (e.1 : Int) + (e.2 : Int) < (a : Int) + (n : Int) := by omega
      have hle2 : ¬ (a : Int) < (e.1 : Int) := by omega
      refine wp_region_kp (by kernel_rfl) (by kernel_rfl) ?_
      repeat (go_big_quiet_step ((rename_i x; first
        | exact kp_call x (aend_bel _ _ _ hw1)
        | exact kp_call x (aend_bel _ _ _ hw2))))
      with_reducible refine wpQuiet_nil ?_
      rintro _ ⟨y, rfl⟩
      have b3 := (HEND.out y).1
      have r0 := b3.r0
      have r1 := b3.r1
      have f0 := b3.f0
      have f1 := b3.f1
      clear b3 s0 s1 e0 e1 k1 k2
      go_wp2_with fail
      exact bodyPost_ret (v := .tuple #[.agg #[.int .i64 0, .slice none 0 0], .int .i64 8]) (by simp [results, Try.results18, go_sem, *]) rfl
        ⟨rfl, ((HEND.out y).2.setCell (p := ⟨B + 1 + 1, 0, none⟩) (.inr (by rw [HB0.out]; simp only; omega)) _).setCell (p := ⟨B + 1 + 1, 1, none⟩) (.inr (by rw [HB0.out]; simp only; omega)) _⟩
    · have hlt2 : (a : Int) < (e.1 : Int) := by omega
      refine wp_region_kp (by kernel_rfl) (by kernel_rfl) ?_
      repeat (go_big_quiet_step (fail))
      with_reducible refine wpQuiet_nil ?_
      rintro _ ⟨y, rfl⟩
      have b3 := (HEND.out y).1
      have r0 := b3.r0
      have r1 := b3.r1
      have f0 := b3.f0
      have f1 := b3.f1
      clear b3 s0 s1 e0 e1 k1 k2
      go_wp2_with fail
      exact bodyPost_ret (v := .tuple #[.agg #[.int .i64 0, .slice none 0 0], .int .i64 8]) (by simp [results, Try.results18, go_sem, *]) rfl
        ⟨rfl, ((HEND.out y).2.setCell (p := ⟨B + 1 + 1, 0, none⟩) (.inr (by rw [HB0.out]; simp only; omega)) _).setCell (p := ⟨B + 1 + 1, 1, none⟩) (.inr (by rw [HB0.out]; simp only; omega)) _⟩
  · have hd : ((i : Int) == (m : Int)) = true := by simp; omega
    refine wp_region_kp (by kernel_rfl) (by kernel_rfl) ?_
    repeat (go_big_quiet_step (fail))
    with_reducible refine wpQuiet_nil ?_
    rintro _ ⟨y, rfl⟩
    have b3 := (HEND.out y).1
    have r0 := b3.r0
    have r1 := b3.r1
    have f0 := b3.f0
    have f1 := b3.f1
    clear b3 s0 s1 e0 e1
    go_wp2_with fail
    exact bodyPost_ret (v := .tuple #[.agg #[.int .i64 0, .slice none 0 0], .int .i64 8]) (by simp [results, Try.results18, go_sem, *]) rfl
      ⟨rfl, ((HEND.out y).2.setCell (p := ⟨B + 1 + 1, 0, none⟩) (.inr (by rw [HB0.out]; simp only; omega)) _).setCell (p := ⟨B + 1 + 1, 1, none⟩) (.inr (by rw [HB0.out]; simp only; omega)) _⟩

/-- with, by a slice that a call made. -/
theorem awith_set (N f t m : Nat) (l RL P : List (Nat × Nat)) (b o cap base : Nat) (v : Value) (w : World) (h : SetIs w N l (some ⟨b, o, none⟩) cap) (hf : f ≤ l.length) (ht : t ≤ l.length)
    (hv : w.ownsRow base 35 2 v P.length (cells2 (zl P))) (hP : P.length ≤ 100000) (hRL : RL = l.take f ++ P ++ l.drop t) (hm : m = RL.length) (hr : RunsF 0 N RL) :
    Calls Try.prog 75 #[.agg #[.int .i64 N, .slice (some ⟨b, o, none⟩) l.length cap], .int .i64 f, .int .i64 t, v] w fun e w' =>
      ∃ ao' cap', e = .returned (.agg #[.int .i64 N, .slice ao' m cap']) ∧ SetIs w' N RL ao' cap' ∧ Gr [] w w' ∧ ∀ k o', ao' = some ⟨k, o', none⟩ → w.heap.size ≤ k := by
  have hs := own_sl2 hv
  obtain ⟨ao, c2, rfl⟩ := own_form hv
  obtain ⟨ao2, c3, e, r1, r2, r3, r4⟩ := hs
  injection e with e1 e2 e3
  subst e1 e3
  rw [zl_len] at r2
  refine (awith_some N f t m l RL b o cap ao P c2 w h hf ht r1 r2 r4 hP hRL hm).mono ?_
  rintro e w' ⟨ao', cap', rfl, hs', g, hk⟩
  subst hm
  exact ⟨ao', cap', rfl, setOf hr h.hi hs', g, hk⟩

end Go.Proofs.Ytpkhfdcokcchdaa
