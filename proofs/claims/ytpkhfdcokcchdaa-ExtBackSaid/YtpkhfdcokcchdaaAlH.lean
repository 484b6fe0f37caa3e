/-
  alloc: Take, a run that has room.
-/
import Derived.Test.YtpkhfdcokcchdaaAlG
import Derived.BigRegion
namespace Go.Proofs.Ytpkhfdcokcchdaa
open Go.RowKit

/-- The variables of Take. -/
structure TBox (W : World) (B N : Nat) (sl : Value) (n : Int) : Prop where
  s : Holds W B #[.int .i64 N, sl] 25
  k : Holds W (B + 1) #[.int .i64 n] 3
  r : Holds W (B + 2) #[.int .i64 0, .slice none 0 0] 25
theorem TBox.gr {W W' : World} {B N : Nat} {sl : Value} {n : Int} {bs : List Nat} (h : TBox W B N sl n) (g : Gr bs W W') (hn : ∀ b ∈ bs, B + 3 ≤ b) : TBox W' B N sl n :=
  ⟨h.s.gr g (fun e => by have := hn _ e; omega), h.k.gr g (fun e => by have := hn _ e; omega), h.r.gr g (fun e => by have := hn _ e; omega)⟩
theorem TBox.gr0 {W W' : World} {B N : Nat} {sl : Value} {n : Int} (h : TBox W B N sl n) (g : Gr [] W W') : TBox W' B N sl n := h.gr g (by simp)
theorem TBox.new (w : World) (N : Nat) (sl : Value) (n : Int) :
    TBox (((w.alloc (Obj.cells #[.int .i64 N, sl] 25)).alloc (Obj.cells #[.int .i64 n] 3)).alloc (Obj.cells #[.int .i64 0, .slice none 0 0] 25)) w.heap.size N sl n := by
  have h1 := Holds.new w #[.int .i64 N, sl] 25
  have h2 := Holds.new (w.alloc (Obj.cells #[.int .i64 N, sl] 25)) #[.int .i64 n] 3
  have h3 := Holds.new ((w.alloc (Obj.cells #[.int .i64 N, sl] 25)).alloc (Obj.cells #[.int .i64 n] 3)) #[.int .i64 0, .slice none 0 0] 25
  simp only [World.size_alloc] at h2 h3
  exact ⟨(h1.alloc _).alloc _, h2.alloc _, h3⟩
section
variable {W : World} {B N : Nat} {sl : Value} {n : Int}
theorem TBox.s0 (h : TBox W B N sl n) : W.cell? ⟨B, 0, none⟩ = some (.int .i64 N) := h.s.cell 0
theorem TBox.s1 (h : TBox W B N sl n) : W.cell? ⟨B, 1, none⟩ = some sl := h.s.cell 1
theorem TBox.k0 (h : TBox W B N sl n) : W.cell? ⟨B + 1, 0, none⟩ = some (.int .i64 n) := h.k.cell 0
theorem TBox.kf (h : TBox W B N sl n) : W.frozen? ⟨B + 1, 0, none⟩ = false := h.k.frozen 0
theorem TBox.r0 (h : TBox W B N sl n) : W.cell? ⟨B + 1 + 1, 0, none⟩ = some (.int .i64 0) := h.r.cell 0
theorem TBox.r1 (h : TBox W B N sl n) : W.cell? ⟨B + 1 + 1, 1, none⟩ = some (.slice none 0 0) := h.r.cell 1
theorem TBox.f0 (h : TBox W B N sl n) : W.frozen? ⟨B + 1 + 1, 0, none⟩ = false := h.r.frozen 0
theorem TBox.f1 (h : TBox W B N sl n) : W.frozen? ⟨B + 1 + 1, 1, none⟩ = false := h.r.frozen 1
end

/-- Use's contract with where the new runs lie. -/
theorem ause_at (N : Nat) (l l' : List (Nat × Nat)) (ao : Option Addr) (cap : Nat) (a n : Nat) (w : World) (h : SetIs w N l ao cap) (hok : okE N a n) (hu : useL l a n = some l') :
    Calls Try.prog 18 #[.agg #[.int .i64 N, .slice ao l.length cap], .agg #[.int .i64 a, .int .i64 n]] w fun e w' => ∃ ao' cap', e = .returned (.tuple #[.agg #[.int .i64 N, .slice ao' l'.length cap'], .int .i64 0]) ∧ SetIs w' N l' ao' cap' ∧ Gr [] w w' ∧ ∀ k o', ao' = some ⟨k, o', none⟩ → w.heap.size ≤ k := ause_some N l l' ao cap a n w h hok hu

set_option maxHeartbeats 4000000 in
set_option maxRecDepth 20000 in
theorem atake_fit (N : Nat) (l l' : List (Nat × Nat)) (ao : Option Addr) (cap n i : Nat) (e : Nat × Nat) (w : World) (h : SetIs w N l ao cap) (hn : 1 ≤ n) (hs : n ≤ sumL l) (hi : fitI l n = some i) (he : l[i]? = some e) (hu : useL l e.1 n = some l') :
    Calls Try.prog 21 #[.agg #[.int .i64 N, .slice ao l.length cap], .int .i64 n] w fun r w' => ∃ ao' cap' a2, r = .returned (.tuple #[.agg #[.int .i64 N, .slice ao' l'.length cap'], .slice a2 1 1, .int .i64 0]) ∧ SetIs w' N l' ao' cap' ∧ Rd2 w' a2 (zl [(e.1, n)]) ∧ Gr [] w w' := by
  have HG := Lib.hid ((((Gr.refl [] w).alloc (Obj.cells #[.int .i64 N, .slice ao l.length cap] 25)).alloc (Obj.cells #[.int .i64 n] 3)).alloc (Obj.cells #[.int .i64 0, .slice none 0 0] 25))
  have HB := Lib.hid (TBox.new w N (.slice ao l.length cap) n)
  have HF := Lib.hid (fun (W : World) (g : Gr [] w W) => afree_bel N l ao cap W (h.gr0 g))
  have HI := Lib.hid (fun (W : World) (g : Gr [] w W) bn hbn => aidx_any N l ao cap bn n W (h.gr0 g) hbn)
  rw [show fitZ l n = (i : Int) by unfold fitZ; rw [hi]] at HI
  have hm1 := h.mem he
  have hle2 : n ≤ e.2 := by
    obtain ⟨e', h1, h2, _⟩ := fitI_some hi
    rw [he] at h1
    injection h1 with h1
    subst h1
    exact h2
  have HU := Lib.hid (fun (W : World) (g : Gr [] w W) => ause_at N l l' ao cap e.1 n W (h.gr0 g) (by unfold okE; omega) hu)
  obtain ⟨b0, o, hao, hb, c1, c2⟩ := h.at he
  have HC := Lib.hid (show b0 < w.heap.size ∧ w.cell? ⟨b0, o + i * 2, none⟩ = some (.int .i64 (e.1 : Int)) from ⟨hb, c1⟩)
  have hil : i < l.length := (List.getElem?_eq_some_iff.1 he).1
  have hlen := h.len
  have hhi := h.hi
  subst hao
  clear h hi he hu c1 c2 hb
  obtain ⟨m, hm⟩ : ∃ m, m = l.length := ⟨_, rfl⟩
  obtain ⟨s, hs'⟩ : ∃ s, s = sumL l := ⟨_, rfl⟩
  obtain ⟨m', hm'⟩ : ∃ m', m' = l'.length := ⟨_, rfl⟩
  rw [← hm] at HG HB HF HI HU hil hlen ⊢
  rw [← hs'] at HF hs
  rw [← hm'] at HU ⊢
  have HM := Lib.hid hm'
  clear hm hs' hm'
  have hs2 : ¬ (s : Int) < (n : Int) := by omega
  go_enter Try.func21, Try.ntmps21
  go_wp2_with fail
  generalize ((w.alloc (Obj.cells #[.int .i64 N, .slice (some ⟨b0, o, none⟩) m cap] 25)).alloc (Obj.cells #[.int .i64 n] 3)).alloc (Obj.cells #[.int .i64 0, .slice none 0 0] 25) = wa at *
  have k0 := kp_cell HB.out.s0
  have k1 := kp_cell HB.out.s1
  have k2 := kp_cell HB.out.k0
  have hne := kp_ne wa
  refine wp_region_kp (by kernel_rfl) (by kernel_rfl) ?_
  repeat (go_big_quiet_step ((rename_i x; exact kp_call x (HF.out _ (HG.out.nextB x.h)))))
  with_reducible refine wpQuiet_nil ?_
  rintro _ ⟨y, rfl⟩
  clear k0 k1 k2 hne
  have b1 := HB.out.gr0 (.ofBelow y.h)
  have g1 := HG.out.nextB y.h
  generalize y.w = w1 at *
  clear y HG HB HF
  have s1 := b1.s1
  have HK := Lib.hid (And.intro b1 g1)
  clear b1 g1
  go_wp2_with fail
  refine (HI.out _ HK.out.2 _ HK.out.1.k0).mono ?_
  rintro e' w2 ⟨rfl, g2⟩
  have b2 := HK.out.1.gr0 g2
  have G2 := HK.out.2.next0 g2
  clear s1 g2 HK HI
  have s0 := b2.s0
  have s1 := b2.s1
  have k0 := b2.k0
  have d1 : w2.cell? ⟨b0, o + i * 2, none⟩ = some (.int .i64 (e.1 : Int)) := by rw [G2.cell0 HC.out.1]; exact HC.out.2
  have ga := (Gr.refl [] w2).alloc (Obj.cells #[.int .i64 0, .int .i64 0] 35)
  have ba := b2.gr0 ga
  have s1a := ba.s1
  have k0a := ba.k0
  have d1a : (w2.alloc (Obj.cells #[.int .i64 0, .int .i64 0] 35)).cell? ⟨b0, o + i * 2, none⟩ = some (.int .i64 (e.1 : Int)) := by rw [(G2.next0 ga).cell0 HC.out.1]; exact HC.out.2
  have HK := Lib.hid (And.intro b2 G2)
  clear b2 G2 ga ba
  go_wp2_with fail
  generalize hB0 : w.heap.size = B at *
  have HB0 := Lib.hid hB0
  clear hB0
  go_region
  have gx := ((Gr.refl [] w2).alloc (Obj.cells #[.int .i64 e.1, .int .i64 n] 35)).drew
  have X3 : Holds (w2.alloc (Obj.cells #[.int .i64 e.1, .int .i64 n] 35)).drew w2.heap.size #[.int .i64 e.1, .int .i64 n] 35 := (Holds.new w2 _ _).drew
  have b3 := HK.out.1.gr0 gx
  have G3 := HK.out.2.next0 gx
  clear s0 s1 k0 d1 s1a k0a d1a gx
  generalize (w2.alloc (Obj.cells #[.int .i64 e.1, .int .i64 n] 35)).drew = w3 at *
  obtain ⟨X, hX⟩ : ∃ X, w2.heap.size = X := ⟨_, rfl⟩
  have hBX : B + 3 ≤ X := by have := HK.out.1.r.lt; omega
  rw [hX] at X3 ⊢
  clear hX HK
  have s0 := b3.s0
  have s1 := b3.s1
  have x0 : w3.cell? ⟨X, 0, none⟩ = some (.int .i64 e.1) := X3.cell 0
  have x1 : w3.cell? ⟨X, 1, none⟩ = some (.int .i64 n) := X3.cell 1
  have HK := Lib.hid (And.intro b3 (And.intro X3 G3))
  clear b3 G3 X3
  go_wp2_with fail
  refine (HU.out _ HK.out.2.2).mono ?_
  rintro e' w4 ⟨ao', cap', rfl, hs4, g4, hk4⟩
  have HK3 := Lib.hid (show X < w4.heap.size from (HK.out.2.1.gr0 g4).lt)
  replace hk4 : ∀ k o', ao' = some ⟨k, o', none⟩ → B + 3 ≤ k := fun k o' e => by have := hk4 k o' e; have := HK.out.2.1.lt; omega
  have ga := (Gr.refl [] w4).alloc (Obj.cells #[.int .i64 N, .slice ao' m' cap'] 25)
  have Y : Holds (w4.alloc (Obj.cells #[.int .i64 N, .slice ao' m' cap'] 25)) w4.heap.size #[.int .i64 N, .slice ao' m' cap'] 25 := Holds.new w4 _ _
  have b4 := (HK.out.1.gr0 g4).gr0 ga
  have X4 := (HK.out.2.1.gr0 g4).gr0 ga
  have G4 := (HK.out.2.2.next0 g4).next0 ga
  have hs4' := hs4.gr0 ga
  clear s0 s1 x0 x1 g4 ga hs4 HK HU
  go_wp2_with fail
  generalize w4.alloc (Obj.cells #[.int .i64 N, .slice ao' m' cap'] 25) = w5 at *
  obtain ⟨Z, hZ⟩ : ∃ Z, w4.heap.size = Z := ⟨_, rfl⟩
  have hZX : X < Z := by have := HK3.out; omega
  rw [hZ] at Y ⊢
  clear hZ
  have hXB : X ≠ B + 1 + 1 := by omega
  have hZB : Z ≠ B + 1 + 1 := by omega
  have gz := (Gr.refl [] w5).alloc (Obj.cells #[.int .i64 e.1, .int .i64 n] 35)
  have y0 : w5.cell? ⟨Z, 0, none⟩ = some (.int .i64 N) := Y.cell 0
  have y1 : w5.cell? ⟨Z, 1, none⟩ = some (.slice ao' m' cap') := Y.cell 1
  have y0a : (w5.alloc (Obj.cells #[.int .i64 e.1, .int .i64 n] 35)).cell? ⟨Z, 0, none⟩ = some (.int .i64 N) := (Y.gr0 gz).cell 0
  have y1a : (w5.alloc (Obj.cells #[.int .i64 e.1, .int .i64 n] 35)).cell? ⟨Z, 1, none⟩ = some (.slice ao' m' cap') := (Y.gr0 gz).cell 1
  have x0 : w5.cell? ⟨X, 0, none⟩ = some (.int .i64 e.1) := X4.cell 0
  have x1 : w5.cell? ⟨X, 1, none⟩ = some (.int .i64 n) := X4.cell 1
  have r0 := b4.r0
  have r1 := b4.r1
  have f0 := b4.f0
  have f1 := b4.f1
  have r0a := (b4.gr0 gz).r0
  have r1a := (b4.gr0 gz).r1
  have f0a := (b4.gr0 gz).f0
  have f1a := (b4.gr0 gz).f1
  have hsz : B + 1 + 1 < w5.heap.size := b4.r.lt
  have HE := Lib.hid (And.intro hs4' (And.intro G4 hk4))
  have HR := Lib.hid b4.r
  clear Y b4 X4 G4 hs4' gz hk4
  go_region
  have T := Holds.new ((w5.setCell ⟨B + 1 + 1, 0, none⟩ (.int .i64 N)).setCell ⟨B + 1 + 1, 1, none⟩ (.slice ao' m' cap')) #[.int .i64 e.1, .int .i64 n] 35
  have hzs : ((w5.setCell ⟨B + 1 + 1, 0, none⟩ (.int .i64 N)).setCell ⟨B + 1 + 1, 1, none⟩ (.slice ao' m' cap')).heap.size = w5.heap.size := by simp [World.setCell]
  rw [hzs] at T
  have RR : Holds (((w5.setCell ⟨B + 1 + 1, 0, none⟩ (.int .i64 N)).setCell ⟨B + 1 + 1, 1, none⟩ (.slice ao' m' cap')).alloc (Obj.cells #[.int .i64 e.1, .int .i64 n] 35)) (B + 1 + 1) #[.int .i64 N, .slice ao' m' cap'] 25 := ((HR.out.set 0 (.int .i64 N)).set 1 (.slice ao' m' cap')).alloc _
  have q0 := RR.cell 0
  have q1 := RR.cell 1
  have HT := Lib.hid T
  clear T RR
  go_wp2_with fail
  refine bodyPost_ret (v := .tuple #[.agg #[.int .i64 N, .slice ao' m' cap'], .slice (some ⟨w5.heap.size, 0, none⟩) 1 1, .int .i64 0]) (by simp [results, Try.results21, go_sem, *]) rfl ⟨ao', cap', _, rfl, ?_, ?_, ?_⟩
  · have hw : Gr [B + 1 + 1] w5 (((w5.setCell ⟨B + 1 + 1, 0, none⟩ (.int .i64 N)).setCell ⟨B + 1 + 1, 1, none⟩ (.slice ao' m' cap')).alloc (Obj.cells #[.int .i64 e.1, .int .i64 n] 35)).drew := ((((Gr.refl _ _).setCell (p := ⟨B + 1 + 1, 0, none⟩) (.inl (by simp)) _).setCell (p := ⟨B + 1 + 1, 1, none⟩) (.inl (by simp)) _).alloc _).drew
    obtain ⟨h1, h2, h3⟩ := HE.out
    refine ⟨h1.runs, h1.hi, h1.rd.gr hw (fun k o' e => ?_), h1.cap1, h1.cap2, h1.none⟩
    have := h3 k o' e
    simp; omega
  · have := holds_rd2 (l := zl [(e.1, n)]) (show Holds _ w5.heap.size (cells2 (zl [(e.1, n)])).toArray 35 from HT.out)
    exact this
  · exact ((((HE.out.2.1).setCell (p := ⟨B + 1 + 1, 0, none⟩) (.inr (by rw [HB0.out]; simp only; omega)) _).setCell (p := ⟨B + 1 + 1, 1, none⟩) (.inr (by rw [HB0.out]; simp only; omega)) _).alloc _).drew

end Go.Proofs.Ytpkhfdcokcchdaa
