/-
  SkAr: RgD, RgE, RgF.
-/
import Derived.Test.YtifekejcbhllpaaGreatSkAq
import Derived.Test.YtifekejcbhllpaaGreatSkAn
import Derived.Test.YtifekejcbhllpaaGreatSkAf

set_option linter.unusedVariables false

/-
  Layer 7: Write and WriteWord, where all is done.
-/
namespace Go.Proofs.YtifekejcbhllpaaGreat
open Go.RowKit
set_option linter.unusedVariables false

section
variable {w w' : World} {kb : Nat} {q : BkA} {a : DevA} {P : PlanR} {B : BkS} {m j c cc : Nat} {D : DevS}
set_option maxRecDepth 100000 in
set_option maxHeartbeats 8000000 in
theorem rgwrite_st (i : Nat) (s : ByteArray) {D3 : DevS} {B3 : BkS} (h : RgIs w kb q a P B m j c) (hd : DevIs w a D) (hb : Bd D cc) (hcc : cc < 550000000) (hm : m < 70000000) (hi : i < P.l) (hs : s.size = 64)
    (hc : (c : Int) < P.psi) (hn : (bankR P).a + sizeZ (bankR P) ≤ (D.n : Int)) (hO : writeS (bankR P) (slotJ P j i) s D B = (0, D3, B3)) :
    Calls Tryz.prog 98 #[.pointer (some ⟨kb, 0, none⟩), .int .i64 (i : Int), .string s] w fun e w' => e = .returned (.int .i64 0) ∧ DevIs w' a D3 ∧ Bd D3 (cc + 4200) ∧ RgIs w' kb q a P B3 (m + 192) j (c + 1) ∧ Gr (kb :: (q.all ++ a.all)) w w' := by
  have hs64 : s.size = 64 := hs
  have HB := Lib.hid (And.intro ((Holds.new w #[.pointer (some ⟨kb, 0, none⟩)] 104).gr0 ((Gr.refl [] _).alloc (Obj.cells #[.string s] 9))) (Holds.new (w.alloc (Obj.cells #[.pointer (some ⟨kb, 0, none⟩)] 104)) #[.string s] 9))
  have g1 : Gr [] w ((w.alloc (Obj.cells #[.pointer (some ⟨kb, 0, none⟩)] 104)).alloc (Obj.cells #[.string s] 9)) := (((Gr.refl [] w).alloc _).alloc _)
  have HLT := Lib.hid (show ∀ x, w.heap.size ≤ x → x ∉ kb :: (q.all ++ a.all) from fun x hx hy => by
    rcases List.mem_cons.1 hy with rfl | hy
    · have := h.head.lt; omega
    · rcases List.mem_append.1 hy with hy | hy
      · have := h.bk.lt _ hy; omega
      · have := hd.lt _ hy; omega)
  obtain ⟨w1, hw1⟩ : ∃ w1, w1 = ((w.alloc (Obj.cells #[.pointer (some ⟨kb, 0, none⟩)] 104)).alloc (Obj.cells #[.string s] 9)) := ⟨_, rfl⟩
  rw [← hw1] at HB g1
  simp only [World.size_alloc] at HB
  have HCh := Lib.hid (change_w_st i s (h.gr0 g1) (hd.gr0 g1) hb hcc hm hi (by rw [hs]; unfold maxLen; omega) (HB.out.1.cell 0) (HB.out.2.cell 0) (HLT.out _ (by omega)) (HLT.out _ (by omega)) hc hn hO)
  have e0 : w1.cell? ⟨w.heap.size, 0, none⟩ = some (.pointer (some ⟨kb, 0, none⟩)) := HB.out.1.cell 0
  have e1 : w1.cell? ⟨w.heap.size + 1, 0, none⟩ = some (.string s) := HB.out.2.cell 0
  have HG1 := Lib.hid g1
  clear h hd hb hcc hm hi hs g1 hc hn hO
  go_enter Tryz.func98, Tryz.ntmps98
  go_upto_region 1 with fail
  rw [← hw1]
  clear hw1
  go_wp2_with fail
  refine HCh.out.mono ?_
  rintro e w2 ⟨rfl, d2, b2, r2, g2⟩
  have H2 := Lib.hid (And.intro d2 (And.intro b2 (And.intro r2 ((HG1.out.of0 (cs := kb :: (q.all ++ a.all))).trans g2))))
  clear d2 b2 r2 g2
  go_wp2_with fail
  go_ret
  exact ⟨rfl, H2.out.1, H2.out.2.1, H2.out.2.2.1, H2.out.2.2.2⟩
end
section
variable {w w' : World} {kb : Nat} {q : BkA} {a : DevA} {P : PlanR} {B : BkS} {m j c cc : Nat} {D : DevS}
set_option maxRecDepth 100000 in
set_option maxHeartbeats 8000000 in
theorem rgwrite_mv (i : Nat) (s : ByteArray) {D1 D2 D3 : DevS} {B1 B2 B3 : BkS} (h : RgIs w kb q a P B m j c) (hd : DevIs w a D) (hb : Bd D cc) (hcc : cc < 550000000) (hm : m < 70000000) (hi : i < P.l) (hs : s.size = 64)
    (hc : P.psi ≤ (c : Int)) (hj : j < 4294967295) (hn : (bankR P).a + sizeZ (bankR P) ≤ (D.n : Int)) (hn1 : D1.n = D.n) (hn2 : D2.n = D.n)
    (hR : (readR D (bankR P) B (fromI P j)).2 = 0) (hW : writeS (bankR P) (toI P j) (readR D (bankR P) B (fromI P j)).1 D B = (0, D1, B1)) (hV : writeWordS (bankR P) ((P.l : Int) + 1) 0 (pkN P (j + 1)) D1 B1 = (0, D2, B2)) (hO : writeS (bankR P) (slotJ P (j + 1) i) s D2 B2 = (0, D3, B3)) :
    Calls Tryz.prog 98 #[.pointer (some ⟨kb, 0, none⟩), .int .i64 (i : Int), .string s] w fun e w' => e = .returned (.int .i64 0) ∧ DevIs w' a D3 ∧ Bd D3 (cc + 4200) ∧ RgIs w' kb q a P B3 (m + 192) (j + 1) (0 + 1) ∧ Gr (kb :: (q.all ++ a.all)) w w' := by
  have hs64 : s.size = 64 := hs
  have HB := Lib.hid (And.intro ((Holds.new w #[.pointer (some ⟨kb, 0, none⟩)] 104).gr0 ((Gr.refl [] _).alloc (Obj.cells #[.string s] 9))) (Holds.new (w.alloc (Obj.cells #[.pointer (some ⟨kb, 0, none⟩)] 104)) #[.string s] 9))
  have g1 : Gr [] w ((w.alloc (Obj.cells #[.pointer (some ⟨kb, 0, none⟩)] 104)).alloc (Obj.cells #[.string s] 9)) := (((Gr.refl [] w).alloc _).alloc _)
  have HLT := Lib.hid (show ∀ x, w.heap.size ≤ x → x ∉ kb :: (q.all ++ a.all) from fun x hx hy => by
    rcases List.mem_cons.1 hy with rfl | hy
    · have := h.head.lt; omega
    · rcases List.mem_append.1 hy with hy | hy
      · have := h.bk.lt _ hy; omega
      · have := hd.lt _ hy; omega)
  obtain ⟨w1, hw1⟩ : ∃ w1, w1 = ((w.alloc (Obj.cells #[.pointer (some ⟨kb, 0, none⟩)] 104)).alloc (Obj.cells #[.string s] 9)) := ⟨_, rfl⟩
  rw [← hw1] at HB g1
  simp only [World.size_alloc] at HB
  have HCh := Lib.hid (change_w_mv i s (h.gr0 g1) (hd.gr0 g1) hb hcc hm hi (by rw [hs]; unfold maxLen; omega) (HB.out.1.cell 0) (HB.out.2.cell 0) (HLT.out _ (by omega)) (HLT.out _ (by omega)) hc hj hn hn1 hn2 hR hW hV hO)
  have e0 : w1.cell? ⟨w.heap.size, 0, none⟩ = some (.pointer (some ⟨kb, 0, none⟩)) := HB.out.1.cell 0
  have e1 : w1.cell? ⟨w.heap.size + 1, 0, none⟩ = some (.string s) := HB.out.2.cell 0
  have HG1 := Lib.hid g1
  clear h hd hb hcc hm hi hs g1 hc hj hn hn1 hn2 hR hW hV hO
  go_enter Tryz.func98, Tryz.ntmps98
  go_upto_region 1 with fail
  rw [← hw1]
  clear hw1
  go_wp2_with fail
  refine HCh.out.mono ?_
  rintro e w2 ⟨rfl, d2, b2, r2, g2⟩
  have H2 := Lib.hid (And.intro d2 (And.intro b2 (And.intro r2 ((HG1.out.of0 (cs := kb :: (q.all ++ a.all))).trans g2))))
  clear d2 b2 r2 g2
  go_wp2_with fail
  go_ret
  exact ⟨rfl, H2.out.1, H2.out.2.1, H2.out.2.2.1, H2.out.2.2.2⟩
end
section
variable {w w' : World} {kb : Nat} {q : BkA} {a : DevA} {P : PlanR} {B : BkS} {m j c cc : Nat} {D : DevS}
set_option maxRecDepth 100000 in
set_option maxHeartbeats 8000000 in
theorem rgww_st (i k v : Nat) {D3 : DevS} {B3 : BkS} (h : RgIs w kb q a P B m j c) (hd : DevIs w a D) (hb : Bd D cc) (hcc : cc < 550000000) (hm : m < 70000000) (hi : i < P.l) (hk : k < 8) (hv : v < 18446744073709551616)
    (hc : (c : Int) < P.psi) (hn : (bankR P).a + sizeZ (bankR P) ≤ (D.n : Int)) (hO : writeWordS (bankR P) (slotJ P j i) (k : Int) v D B = (0, D3, B3)) :
    Calls Tryz.prog 99 #[.pointer (some ⟨kb, 0, none⟩), .int .i64 (i : Int), .int .i64 (k : Int), .int .u64 (v : Int)] w fun e w' => e = .returned (.int .i64 0) ∧ DevIs w' a D3 ∧ Bd D3 (cc + 4200) ∧ RgIs w' kb q a P B3 (m + 192) j (c + 1) ∧ Gr (kb :: (q.all ++ a.all)) w w' := by
  have ik3 : ¬ ((k : Int) < 0) := by omega
  have ik4 : ¬ ((8 : Int) ≤ (k : Int)) := by omega
  have HB := Lib.hid (And.intro (((Holds.new w #[.pointer (some ⟨kb, 0, none⟩)] 104).gr0 ((Gr.refl [] _).alloc (Obj.cells #[.int .i64 (k : Int)] 3))).gr0 ((Gr.refl [] _).alloc (Obj.cells #[.int .u64 (v : Int)] 22))) (And.intro ((Holds.new (w.alloc (Obj.cells #[.pointer (some ⟨kb, 0, none⟩)] 104)) #[.int .i64 (k : Int)] 3).gr0 ((Gr.refl [] _).alloc (Obj.cells #[.int .u64 (v : Int)] 22))) (Holds.new ((w.alloc (Obj.cells #[.pointer (some ⟨kb, 0, none⟩)] 104)).alloc (Obj.cells #[.int .i64 (k : Int)] 3)) #[.int .u64 (v : Int)] 22)))
  have g1 : Gr [] w (((w.alloc (Obj.cells #[.pointer (some ⟨kb, 0, none⟩)] 104)).alloc (Obj.cells #[.int .i64 (k : Int)] 3)).alloc (Obj.cells #[.int .u64 (v : Int)] 22)) := ((((Gr.refl [] w).alloc _).alloc _).alloc _)
  have HLT := Lib.hid (show ∀ x, w.heap.size ≤ x → x ∉ kb :: (q.all ++ a.all) from fun x hx hy => by
    rcases List.mem_cons.1 hy with rfl | hy
    · have := h.head.lt; omega
    · rcases List.mem_append.1 hy with hy | hy
      · have := h.bk.lt _ hy; omega
      · have := hd.lt _ hy; omega)
  obtain ⟨w1, hw1⟩ : ∃ w1, w1 = (((w.alloc (Obj.cells #[.pointer (some ⟨kb, 0, none⟩)] 104)).alloc (Obj.cells #[.int .i64 (k : Int)] 3)).alloc (Obj.cells #[.int .u64 (v : Int)] 22)) := ⟨_, rfl⟩
  rw [← hw1] at HB g1
  simp only [World.size_alloc] at HB
  have HCh := Lib.hid (change_ww_st i (k : Int) v (h.gr0 g1) (hd.gr0 g1) hb hcc hm hi hv (HB.out.1.cell 0) (HB.out.2.1.cell 0) (HB.out.2.2.cell 0) (HLT.out _ (by omega)) (HLT.out _ (by omega)) (HLT.out _ (by omega)) hc hn hO)
  have e0 : w1.cell? ⟨w.heap.size, 0, none⟩ = some (.pointer (some ⟨kb, 0, none⟩)) := HB.out.1.cell 0
  have e1 : w1.cell? ⟨w.heap.size + 1, 0, none⟩ = some (.int .i64 (k : Int)) := HB.out.2.1.cell 0
  have e2 : w1.cell? ⟨w.heap.size + 1 + 1, 0, none⟩ = some (.int .u64 (v : Int)) := HB.out.2.2.cell 0
  have HG1 := Lib.hid g1
  clear h hd hb hcc hm hi hk hv g1 hc hn hO
  go_enter Tryz.func99, Tryz.ntmps99
  go_upto_region 1 with fail
  rw [← hw1]
  clear hw1
  go_wp2_with fail
  refine HCh.out.mono ?_
  rintro e w2 ⟨rfl, d2, b2, r2, g2⟩
  have H2 := Lib.hid (And.intro d2 (And.intro b2 (And.intro r2 ((HG1.out.of0 (cs := kb :: (q.all ++ a.all))).trans g2))))
  clear d2 b2 r2 g2
  go_wp2_with fail
  go_ret
  exact ⟨rfl, H2.out.1, H2.out.2.1, H2.out.2.2.1, H2.out.2.2.2⟩
end
section
variable {w w' : World} {kb : Nat} {q : BkA} {a : DevA} {P : PlanR} {B : BkS} {m j c cc : Nat} {D : DevS}
set_option maxRecDepth 100000 in
set_option maxHeartbeats 8000000 in
theorem rgww_mv (i k v : Nat) {D1 D2 D3 : DevS} {B1 B2 B3 : BkS} (h : RgIs w kb q a P B m j c) (hd : DevIs w a D) (hb : Bd D cc) (hcc : cc < 550000000) (hm : m < 70000000) (hi : i < P.l) (hk : k < 8) (hv : v < 18446744073709551616)
    (hc : P.psi ≤ (c : Int)) (hj : j < 4294967295) (hn : (bankR P).a + sizeZ (bankR P) ≤ (D.n : Int)) (hn1 : D1.n = D.n) (hn2 : D2.n = D.n)
    (hR : (readR D (bankR P) B (fromI P j)).2 = 0) (hW : writeS (bankR P) (toI P j) (readR D (bankR P) B (fromI P j)).1 D B = (0, D1, B1)) (hV : writeWordS (bankR P) ((P.l : Int) + 1) 0 (pkN P (j + 1)) D1 B1 = (0, D2, B2)) (hO : writeWordS (bankR P) (slotJ P (j + 1) i) (k : Int) v D2 B2 = (0, D3, B3)) :
    Calls Tryz.prog 99 #[.pointer (some ⟨kb, 0, none⟩), .int .i64 (i : Int), .int .i64 (k : Int), .int .u64 (v : Int)] w fun e w' => e = .returned (.int .i64 0) ∧ DevIs w' a D3 ∧ Bd D3 (cc + 4200) ∧ RgIs w' kb q a P B3 (m + 192) (j + 1) (0 + 1) ∧ Gr (kb :: (q.all ++ a.all)) w w' := by
  have ik3 : ¬ ((k : Int) < 0) := by omega
  have ik4 : ¬ ((8 : Int) ≤ (k : Int)) := by omega
  have HB := Lib.hid (And.intro (((Holds.new w #[.pointer (some ⟨kb, 0, none⟩)] 104).gr0 ((Gr.refl [] _).alloc (Obj.cells #[.int .i64 (k : Int)] 3))).gr0 ((Gr.refl [] _).alloc (Obj.cells #[.int .u64 (v : Int)] 22))) (And.intro ((Holds.new (w.alloc (Obj.cells #[.pointer (some ⟨kb, 0, none⟩)] 104)) #[.int .i64 (k : Int)] 3).gr0 ((Gr.refl [] _).alloc (Obj.cells #[.int .u64 (v : Int)] 22))) (Holds.new ((w.alloc (Obj.cells #[.pointer (some ⟨kb, 0, none⟩)] 104)).alloc (Obj.cells #[.int .i64 (k : Int)] 3)) #[.int .u64 (v : Int)] 22)))
  have g1 : Gr [] w (((w.alloc (Obj.cells #[.pointer (some ⟨kb, 0, none⟩)] 104)).alloc (Obj.cells #[.int .i64 (k : Int)] 3)).alloc (Obj.cells #[.int .u64 (v : Int)] 22)) := ((((Gr.refl [] w).alloc _).alloc _).alloc _)
  have HLT := Lib.hid (show ∀ x, w.heap.size ≤ x → x ∉ kb :: (q.all ++ a.all) from fun x hx hy => by
    rcases List.mem_cons.1 hy with rfl | hy
    · have := h.head.lt; omega
    · rcases List.mem_append.1 hy with hy | hy
      · have := h.bk.lt _ hy; omega
      · have := hd.lt _ hy; omega)
  obtain ⟨w1, hw1⟩ : ∃ w1, w1 = (((w.alloc (Obj.cells #[.pointer (some ⟨kb, 0, none⟩)] 104)).alloc (Obj.cells #[.int .i64 (k : Int)] 3)).alloc (Obj.cells #[.int .u64 (v : Int)] 22)) := ⟨_, rfl⟩
  rw [← hw1] at HB g1
  simp only [World.size_alloc] at HB
  have HCh := Lib.hid (change_ww_mv i (k : Int) v (h.gr0 g1) (hd.gr0 g1) hb hcc hm hi hv (HB.out.1.cell 0) (HB.out.2.1.cell 0) (HB.out.2.2.cell 0) (HLT.out _ (by omega)) (HLT.out _ (by omega)) (HLT.out _ (by omega)) hc hj hn hn1 hn2 hR hW hV hO)
  have e0 : w1.cell? ⟨w.heap.size, 0, none⟩ = some (.pointer (some ⟨kb, 0, none⟩)) := HB.out.1.cell 0
  have e1 : w1.cell? ⟨w.heap.size + 1, 0, none⟩ = some (.int .i64 (k : Int)) := HB.out.2.1.cell 0
  have e2 : w1.cell? ⟨w.heap.size + 1 + 1, 0, none⟩ = some (.int .u64 (v : Int)) := HB.out.2.2.cell 0
  have HG1 := Lib.hid g1
  clear h hd hb hcc hm hi hk hv g1 hc hj hn hn1 hn2 hR hW hV hO
  go_enter Tryz.func99, Tryz.ntmps99
  go_upto_region 1 with fail
  rw [← hw1]
  clear hw1
  go_wp2_with fail
  refine HCh.out.mono ?_
  rintro e w2 ⟨rfl, d2, b2, r2, g2⟩
  have H2 := Lib.hid (And.intro d2 (And.intro b2 (And.intro r2 ((HG1.out.of0 (cs := kb :: (q.all ++ a.all))).trans g2))))
  clear d2 b2 r2 g2
  go_wp2_with fail
  go_ret
  exact ⟨rfl, H2.out.1, H2.out.2.1, H2.out.2.2.1, H2.out.2.2.2⟩
end
end Go.Proofs.YtifekejcbhllpaaGreat

/-
  Layer 7: Check, Format.
-/
namespace Go.Proofs.YtifekejcbhllpaaGreat
open Go.RowKit
set_option linter.unusedVariables false

section
variable {w w' : World} {kb : Nat} {q : BkA} {a : DevA} {P : PlanR} {B : BkS} {m j c cc : Nat} {D : DevS}
theorem planR_cells (P : PlanR) (w : World) : (w.alloc (Obj.cells #[.int .i64 P.a, .int .i64 (P.l : Int), .int .i64 P.s, .int .i64 P.psi] 114)).cell? ⟨w.heap.size, 0, none⟩ = some (.int .i64 P.a) ∧ (w.alloc (Obj.cells #[.int .i64 P.a, .int .i64 (P.l : Int), .int .i64 P.s, .int .i64 P.psi] 114)).cell? ⟨w.heap.size, 1, none⟩ = some (.int .i64 (P.l : Int)) ∧ (w.alloc (Obj.cells #[.int .i64 P.a, .int .i64 (P.l : Int), .int .i64 P.s, .int .i64 P.psi] 114)).cell? ⟨w.heap.size, 2, none⟩ = some (.int .i64 P.s) ∧ (w.alloc (Obj.cells #[.int .i64 P.a, .int .i64 (P.l : Int), .int .i64 P.s, .int .i64 P.psi] 114)).cell? ⟨w.heap.size, 3, none⟩ = some (.int .i64 P.psi) := by
  have h := Holds.new w #[.int .i64 P.a, .int .i64 (P.l : Int), .int .i64 P.s, .int .i64 P.psi] 114
  exact ⟨h.cell 0, h.cell 1, h.cell 2, h.cell 3⟩
set_option maxRecDepth 100000 in
set_option maxHeartbeats 8000000 in
theorem rgcheck_any (hP : OkR P) (n : Int) (w : World) : Calls Tryz.prog 50 #[planRV P, .int .i64 n] w fun e w' => e = .returned (.int .i64 (checkZ (bankR P) n)) ∧ Gr [] w w' := by
  obtain ⟨c0, c1, c2, c3⟩ := planR_cells P w
  have HG := Lib.hid ((Gr.refl [] w).alloc (Obj.cells #[.int .i64 P.a, .int .i64 (P.l : Int), .int .i64 P.s, .int .i64 P.psi] 114))
  obtain ⟨w1, hw1⟩ : ∃ w1, w1 = w.alloc (Obj.cells #[.int .i64 P.a, .int .i64 (P.l : Int), .int .i64 P.s, .int .i64 P.psi] 114) := ⟨_, rfl⟩
  obtain ⟨pb, hpb⟩ : ∃ pb, pb = w.heap.size := ⟨_, rfl⟩
  rw [← hpb, ← hw1] at c0 c1 c2 c3
  rw [← hw1] at HG
  have HB := Lib.hid (fun W => show Calls Tryz.prog 51 #[.agg #[.int .i64 P.a, .int .i64 (P.l : Int), .int .i64 P.s, .int .i64 P.psi]] W _ from bankf_any hP W)
  have HC := Lib.hid (fun W => check_any (bankR P) n W)
  obtain ⟨bv, hbv⟩ : ∃ bv, bv = planV (bankR P) := ⟨_, rfl⟩
  rw [← hbv] at HB HC
  obtain ⟨r, hr⟩ : ∃ r, r = checkZ (bankR P) n := ⟨_, rfl⟩
  rw [← hr] at HC ⊢
  have i1 : ¬ ((P.l : Int) < 1) := by have := hP.l1; omega
  have i2 : ¬ ((1024 : Int) < (P.l : Int)) := by have := hP.l2; omega
  have i3 : ¬ (P.psi < 1) := by have := hP.p1; omega
  have i4 : ¬ ((65535 : Int) < P.psi) := by have := hP.p2; omega
  unfold planRV
  clear hP hbv hr
  go_enter Tryz.func50, Tryz.ntmps50
  go_upto_region 1 with fail
  rw [← hw1, ← hpb]
  clear hw1 hpb
  go_wp2_with fail
  refine (HB.out _).mono ?_
  rintro e w2 ⟨rfl, g2⟩
  have HG2 := Lib.hid (HG.out.trans g2)
  clear g2
  go_wp2_with fail
  refine (HC.out _).mono ?_
  rintro e w3 ⟨rfl, b3⟩
  have HG3 := Lib.hid (HG2.out.nextB b3)
  clear b3
  go_wp2_with fail
  go_ret
  exact ⟨rfl, HG3.out⟩
theorem pkN_zero (hP : OkR P) : sAt P.l 0 = 0 ∧ gAt P.l 0 = (P.l : Int) := by
  unfold sAt gAt
  simp
end
end Go.Proofs.YtifekejcbhllpaaGreat

/-
  Layer 7: Open, where the register may be.
-/
namespace Go.Proofs.YtifekejcbhllpaaGreat
open Go.RowKit
set_option linter.unusedVariables false

section
variable {w w' : World} {a : DevA} {P : PlanR} {B : BkS} {j : Nat} {D : DevS}
set_option maxRecDepth 100000 in
set_option maxHeartbeats 8000000 in
theorem rgopen_ok {T : ByteArray} (hP : OkR P) (h : DevIs w a D) (ho : D.off = false) (hp : checkZ (bankR P) (D.n : Int) = 0) (hO : openS (bankR P) D (bankR P).s.toNat 0 ⟨0, fun _ => none⟩ = (0, B))
    (hR : readR D (bankR P) B ((P.l : Int) + 1) = (T, 0)) (hT : wdL T.data.toList 0 = pkN P j) (hTs : T.size ≤ maxLen) (hj : j ≤ 4294967295) :
    Calls Tryz.prog 90 #[.pointer (some ⟨a.bd, 0, none⟩), planRV P] w fun e w' => ∃ (kb : Nat) (q : BkA), e = .returned (.tuple #[.pointer (some ⟨kb, 0, none⟩), .int .i64 0]) ∧ RgIs w' kb q a P B 64 j 0 ∧ (∀ x ∈ kb :: q.all, w.heap.size ≤ x) ∧ Gr [] w w' := by
  obtain ⟨hok, hsz⟩ := check_ok hp
  have hfit : (bankR P).a + sizeZ (bankR P) ≤ (D.n : Int) := by omega
  have HOp := Lib.hid (fun W (q1 : DevIs W a D) => open_ok (p := bankR P) q1 ho hp hO)
  have HRd := Lib.hid (fun W (q : BkA) (q1 : BkIs W q a (bankR P) B 64) (q2 : DevIs W a D) => read_any ((P.l : Int) + 1) q1 q2 hfit)
  rw [hR] at HRd
  obtain ⟨k1, k2⟩ := pkN_val hP j hj
  have HGt := Lib.hid (fun W => show Calls Tryz.prog 16 #[.string T] W fun e w' => e = .returned (.int .u64 ((pkN P j : Nat) : Int)) ∧ w' = W from (get_any T W hTs).mono fun _ _ ⟨h1, h2⟩ => ⟨by rw [h1, ← hT]; unfold wdL; rw [Nat.mul_zero, List.drop_zero], h2.symm⟩)
  have hr := at_right P.l j hP.l1 hP.l2
  have HUn := Lib.hid (fun W => show Calls Tryz.prog 123 #[.int .u64 ((pkN P j : Nat) : Int)] W _ by
    rw [k1]
    exact unpack_pk (sAt P.l j) (gAt P.l j) (j : Int) W (by omega) (by have := hr; unfold rightS at this; omega) (by have := hr; unfold rightS at this; omega))
  have HRi := Lib.hid (fun W => right_yes (sAt P.l j) (gAt P.l j) (j : Int) (P.l : Int) W hr)
  have HB := Lib.hid (fun W => show Calls Tryz.prog 51 #[.agg #[.int .i64 P.a, .int .i64 (P.l : Int), .int .i64 P.s, .int .i64 P.psi]] W _ from bankf_any hP W)
  have HC := Lib.hid (fun W => show Calls Tryz.prog 50 #[.agg #[.int .i64 P.a, .int .i64 (P.l : Int), .int .i64 P.s, .int .i64 P.psi], .int .i64 (D.n : Int)] W _ from rgcheck_any hP (D.n : Int) W)
  rw [hp] at HC
  have HRg := Lib.hid (fun W => show Calls Tryz.prog 116 #[.agg #[.int .i64 P.a, .int .i64 (P.l : Int), .int .i64 P.s, .int .i64 P.psi]] W _ from reg_any hP W)
  obtain ⟨bv, hbv⟩ : ∃ bv, bv = planV (bankR P) := ⟨_, rfl⟩
  rw [← hbv] at HB HOp
  obtain ⟨c0, c1, c2, c3⟩ := planR_cells P w
  have HG := Lib.hid ((Gr.refl [] w).alloc (Obj.cells #[.int .i64 P.a, .int .i64 (P.l : Int), .int .i64 P.s, .int .i64 P.psi] 114))
  obtain ⟨w1, hw1⟩ : ∃ w1, w1 = w.alloc (Obj.cells #[.int .i64 P.a, .int .i64 (P.l : Int), .int .i64 P.s, .int .i64 P.psi] 114) := ⟨_, rfl⟩
  obtain ⟨pb, hpb⟩ : ∃ pb, pb = w.heap.size := ⟨_, rfl⟩
  rw [← hpb, ← hw1] at c0 c1 c2 c3
  rw [← hw1] at HG
  have HD1 := Lib.hid (h.gr0 HG.out)
  have HOK := Lib.hid hP
  unfold planRV
  obtain ⟨sj, hsj⟩ : ∃ x, x = sAt P.l j := ⟨_, rfl⟩
  obtain ⟨gj, hgj⟩ : ∃ x, x = gAt P.l j := ⟨_, rfl⟩
  have HSJ := Lib.hid (And.intro hsj hgj)
  rw [← hsj, ← hgj] at HUn HRi
  clear hP h ho hp hO hR hT hTs hj hok hsz hfit k1 k2 hr hbv hsj hgj
  generalize ((pkN P j : Nat) : Int) = pk at *
  go_enter Tryz.func90, Tryz.ntmps90
  go_upto_region 1 with fail
  rw [← hw1, ← hpb]
  clear hw1 hpb
  have k0 := kp_cell c0
  have k1 := kp_cell c1
  have k2 := kp_cell c2
  have k3 := kp_cell c3
  have hne := kp_ne w1
  go_wp2_with fail
  refine wp_region_kp (by kernel_rfl) (by kernel_rfl) ?_
  repeat (go_big_quiet_step ((rename_i x; first
    | exact kp_call x (linesK (HD1.out.kp x.h))
    | exact kp_call x ((HC.out _).mono fun _ _ q => ⟨q.1, q.2.below0⟩))))
  with_reducible refine wpQuiet_nil ?_
  rintro _ ⟨y, rfl⟩
  have gy : Gr [] w1 y.w := Gr.ofBelow (cs := []) y.h
  have HG2 := Lib.hid (HG.out.trans gy)
  have HD2 := Lib.hid (HD1.out.gr0 gy)
  replace c0 := k0 y
  replace c1 := k1 y
  replace c2 := k2 y
  replace c3 := k3 y
  clear k0 k1 k2 k3 hne gy HC HD1 HG
  generalize y.w = w2 at *
  go_wp2_with fail
  refine (HB.out _).mono ?_
  rintro e w3 ⟨rfl, g3⟩
  replace c0 := (g3.cell0 (World.block_lt_of_cell? w2 _ c0)).trans c0
  replace c1 := (g3.cell0 (World.block_lt_of_cell? w2 _ c1)).trans c1
  replace c2 := (g3.cell0 (World.block_lt_of_cell? w2 _ c2)).trans c2
  replace c3 := (g3.cell0 (World.block_lt_of_cell? w2 _ c3)).trans c3
  have HG3 := Lib.hid (HG2.out.trans g3)
  have HD3 := Lib.hid (HD2.out.gr0 g3)
  clear g3 HG2 HD2
  go_wp2_with fail
  refine (HOp.out _ HD3.out).mono ?_
  rintro e w4 ⟨q, rfl, kq, hq, g4⟩
  replace c0 := (g4.cell0 (World.block_lt_of_cell? w3 _ c0)).trans c0
  replace c1 := (g4.cell0 (World.block_lt_of_cell? w3 _ c1)).trans c1
  replace c2 := (g4.cell0 (World.block_lt_of_cell? w3 _ c2)).trans c2
  replace c3 := (g4.cell0 (World.block_lt_of_cell? w3 _ c3)).trans c3
  have H4 := Lib.hid (And.intro (HD3.out.gr0 g4) (And.intro kq (And.intro (HG3.out.trans g4) (show ∀ x ∈ q.all, w.heap.size ≤ x from fun x hx => Nat.le_trans HG3.out.size (hq x hx)))))
  clear kq hq g4 HG3 HD3 HOp
  go_wp2_with fail
  refine (HRg.out _).mono ?_
  rintro e w5 ⟨rfl, g5⟩
  replace c0 := (g5.cell0 (World.block_lt_of_cell? w4 _ c0)).trans c0
  replace c1 := (g5.cell0 (World.block_lt_of_cell? w4 _ c1)).trans c1
  replace c2 := (g5.cell0 (World.block_lt_of_cell? w4 _ c2)).trans c2
  replace c3 := (g5.cell0 (World.block_lt_of_cell? w4 _ c3)).trans c3
  have H5 := Lib.hid (And.intro (H4.out.1.gr0 g5) (And.intro (H4.out.2.1.gr0 g5) (H4.out.2.2.1.trans g5)))
  clear g5
  go_wp2_with fail
  refine (HRd.out _ q H5.out.2.1 H5.out.1).mono ?_
  rintro e w6 ⟨rfl, g6⟩
  replace c0 := (g6.cell0 (World.block_lt_of_cell? w5 _ c0)).trans c0
  replace c1 := (g6.cell0 (World.block_lt_of_cell? w5 _ c1)).trans c1
  replace c2 := (g6.cell0 (World.block_lt_of_cell? w5 _ c2)).trans c2
  replace c3 := (g6.cell0 (World.block_lt_of_cell? w5 _ c3)).trans c3
  have H6 := Lib.hid (And.intro (H5.out.1.gr0 g6) (And.intro (H5.out.2.1.gr0 g6) (H5.out.2.2.trans g6)))
  clear g6 H5
  go_wp2_with fail
  refine (HGt.out _).mono ?_
  rintro e w7 ⟨rfl, rfl⟩
  go_wp2_with fail
  refine (HUn.out _).mono ?_
  rintro e w8 ⟨rfl, b8⟩
  have g8 := Gr.ofBelow (cs := []) b8
  replace c0 := (g8.cell0 (World.block_lt_of_cell? w7 _ c0)).trans c0
  replace c1 := (g8.cell0 (World.block_lt_of_cell? w7 _ c1)).trans c1
  replace c2 := (g8.cell0 (World.block_lt_of_cell? w7 _ c2)).trans c2
  replace c3 := (g8.cell0 (World.block_lt_of_cell? w7 _ c3)).trans c3
  have H8 := Lib.hid (And.intro (H6.out.1.gr0 g8) (And.intro (H6.out.2.1.gr0 g8) (H6.out.2.2.trans g8)))
  clear g8 b8 H6
  go_upto_region 13 with fail
  have HN := Lib.hid (Holds.new w8 #[.int .i64 sj, .int .i64 gj, .int .u32 (j : Int)] 142)
  have ga := (Gr.refl [] w8).alloc (Obj.cells #[.int .i64 sj, .int .i64 gj, .int .u32 (j : Int)] 142)
  replace c0 := (ga.cell0 (World.block_lt_of_cell? w8 _ c0)).trans c0
  replace c1 := (ga.cell0 (World.block_lt_of_cell? w8 _ c1)).trans c1
  replace c2 := (ga.cell0 (World.block_lt_of_cell? w8 _ c2)).trans c2
  replace c3 := (ga.cell0 (World.block_lt_of_cell? w8 _ c3)).trans c3
  have H9 := Lib.hid (And.intro (H8.out.1.gr0 ga) (And.intro (H8.out.2.1.gr0 ga) (H8.out.2.2.trans ga)))
  clear ga
  generalize w8.alloc (Obj.cells #[.int .i64 sj, .int .i64 gj, .int .u32 (j : Int)] 142) = w9 at *
  obtain ⟨nb, hnb⟩ : ∃ nb, w8.heap.size = nb := ⟨_, rfl⟩
  rw [hnb] at HN ⊢
  clear hnb H8
  have n0 : w9.cell? ⟨nb, 0, none⟩ = some (.int .i64 sj) := HN.out.cell 0
  have n1 : w9.cell? ⟨nb, 1, none⟩ = some (.int .i64 gj) := HN.out.cell 1
  have n2 : w9.cell? ⟨nb, 2, none⟩ = some (.int .u32 (j : Int)) := HN.out.cell 2
  go_wp2_with fail
  refine (HRi.out _).mono ?_
  rintro e w10 ⟨rfl, hw10⟩
  have g10 : Gr [] w9 w10 := by rw [← hw10]; exact (Gr.refl [] w9).alloc _
  replace c0 := (g10.cell0 (World.block_lt_of_cell? w9 _ c0)).trans c0
  replace c1 := (g10.cell0 (World.block_lt_of_cell? w9 _ c1)).trans c1
  replace c2 := (g10.cell0 (World.block_lt_of_cell? w9 _ c2)).trans c2
  replace c3 := (g10.cell0 (World.block_lt_of_cell? w9 _ c3)).trans c3
  replace n0 := (g10.cell0 (World.block_lt_of_cell? w9 _ n0)).trans n0
  replace n1 := (g10.cell0 (World.block_lt_of_cell? w9 _ n1)).trans n1
  replace n2 := (g10.cell0 (World.block_lt_of_cell? w9 _ n2)).trans n2
  have H10 := Lib.hid (And.intro (H9.out.1.gr0 g10) (And.intro (H9.out.2.1.gr0 g10) (H9.out.2.2.trans g10)))
  clear hw10 g10 H9
  go_wp2_with fail
  have hh := Holds.new w10 #[.int .i64 P.a, .int .i64 (P.l : Int), .int .i64 P.s, .int .i64 P.psi, .pointer (some ⟨q.b, 0, none⟩), .int .i64 sj, .int .i64 gj, .int .u32 (j : Int), .int .i64 0] 144
  have gz := (Gr.refl [] w10).alloc (Obj.cells #[.int .i64 P.a, .int .i64 (P.l : Int), .int .i64 P.s, .int .i64 P.psi, .pointer (some ⟨q.b, 0, none⟩), .int .i64 sj, .int .i64 gj, .int .u32 (j : Int), .int .i64 0] 144)
  have hrg : RgIs (w10.alloc (Obj.cells #[.int .i64 P.a, .int .i64 (P.l : Int), .int .i64 P.s, .int .i64 P.psi, .pointer (some ⟨q.b, 0, none⟩), .int .i64 sj, .int .i64 gj, .int .u32 (j : Int), .int .i64 0] 144)) w10.heap.size q a P B 64 j 0 := by
    obtain ⟨rfl, rfl⟩ := HSJ.out
    exact ⟨hh, H10.out.2.1.gr0 gz, HOK.out, fun hx => by have := H10.out.2.1.lt _ hx; omega, fun hx => by have := H10.out.1.lt _ hx; omega⟩
  exact bodyPost_ret (v := .tuple #[.pointer (some ⟨w10.heap.size, 0, none⟩), .int .i64 0]) (by simp [results, Tryz.results90, go_sem]) rfl ⟨w10.heap.size, q, rfl, hrg, (fun x hx => by
    rcases List.mem_cons.1 hx with rfl | hx
    · exact H10.out.2.2.size
    · exact H4.out.2.2.2 x hx), H10.out.2.2.trans gz⟩
end
end Go.Proofs.YtifekejcbhllpaaGreat
