/-
  PgAs: RgD, RgE.
-/
import Derived.Test.YtjbhallhmnahbaaGreatPgAr
import Derived.Test.YtjbhallhmnahbaaGreatPgAn
import Derived.Test.YtjbhallhmnahbaaGreatPgAo

/-
  Layer 7: Write and WriteWord, where all is done.
-/
namespace Go.Proofs.YtjbhallhmnahbaaGreat
open Go.RowKit
set_option linter.unusedVariables false

section
variable {w w' : World} {kb : Nat} {q : BkA} {a : DevA} {P : PlanR} {B : BkS} {m j c cc : Nat} {D : DevS}
set_option maxRecDepth 100000 in
set_option maxHeartbeats 8000000 in
theorem rgwrite_st (i : Nat) (s : ByteArray) {D3 : DevS} {B3 : BkS} (h : RgIs w kb q a P B m j c) (hd : DevIs w a D) (hb : Bd D cc) (hcc : cc < 550000) (hm : m < 70000) (hi : i < P.l) (hs : s.size = 64)
    (hc : (c : Int) < P.psi) (hn : (bankR P).a + sizeZ (bankR P) ≤ (D.n : Int)) (hO : writeS (bankR P) (slotJ P j i) s D B = (0, D3, B3)) :
    Calls Tryz.prog 60 #[.pointer (some ⟨kb, 0, none⟩), .int .i64 (i : Int), .string s] w fun e w' => e = .returned (.int .i64 0) ∧ DevIs w' a D3 ∧ Bd D3 (cc + 4200) ∧ RgIs w' kb q a P B3 (m + 192) j (c + 1) ∧ Gr (kb :: (q.all ++ a.all)) w w' := by
  have hs64 : s.size = 64 := hs
  have HB := Lib.hid (And.intro ((Holds.new w #[.pointer (some ⟨kb, 0, none⟩)] 122).gr0 ((Gr.refl [] _).alloc (Obj.cells #[.string s] 9))) (Holds.new (w.alloc (Obj.cells #[.pointer (some ⟨kb, 0, none⟩)] 122)) #[.string s] 9))
  have g1 : Gr [] w ((w.alloc (Obj.cells #[.pointer (some ⟨kb, 0, none⟩)] 122)).alloc (Obj.cells #[.string s] 9)) := (((Gr.refl [] w).alloc _).alloc _)
  have HLT := Lib.hid (show ∀ x, w.heap.size ≤ x → x ∉ kb :: (q.all ++ a.all) from fun x hx hy => by
    rcases List.mem_cons.1 hy with rfl | hy
    · have := h.head.lt; omega
    · rcases List.mem_append.1 hy with hy | hy
      · have := h.bk.lt _ hy; omega
      · have := hd.lt _ hy; omega)
  obtain ⟨w1, hw1⟩ : ∃ w1, w1 = ((w.alloc (Obj.cells #[.pointer (some ⟨kb, 0, none⟩)] 122)).alloc (Obj.cells #[.string s] 9)) := ⟨_, rfl⟩
  rw [← hw1] at HB g1
  simp only [World.size_alloc] at HB
  have HCh := Lib.hid (change_w_st i s (h.gr0 g1) (hd.gr0 g1) hb hcc hm hi (by rw [hs]; unfold maxLen; omega) (HB.out.1.cell 0) (HB.out.2.cell 0) (HLT.out _ (by omega)) (HLT.out _ (by omega)) hc hn hO)
  have e0 : w1.cell? ⟨w.heap.size, 0, none⟩ = some (.pointer (some ⟨kb, 0, none⟩)) := HB.out.1.cell 0
  have e1 : w1.cell? ⟨w.heap.size + 1, 0, none⟩ = some (.string s) := HB.out.2.cell 0
  have HG1 := Lib.hid g1
  clear h hd hb hcc hm hi hs g1 hc hn hO
  go_enter Tryz.func60, Tryz.ntmps60
  go_upto_region 1 with fail
  rw [← hw1]
  clear hw1
  go_wp2_with fail
  refine HCh.out.mono ?_
  rintro e w2 ⟨rfl, d2, b2, r2, g2⟩
  have H2 := Lib.hid (And.intro d2 (And.intro b2 (And.intro r2 ((HG1.out.of0 (cs := kb :: (q.all ++ a.all))).trans g2))))
  clear d2 b2 r2 g2
  go_wp2_with fail
  go_ret
  exact ⟨rfl, H2.out.1, H2.out.2.1, H2.out.2.2.1, H2.out.2.2.2⟩
end
section
variable {w w' : World} {kb : Nat} {q : BkA} {a : DevA} {P : PlanR} {B : BkS} {m j c cc : Nat} {D : DevS}
set_option maxRecDepth 100000 in
set_option maxHeartbeats 8000000 in
theorem rgwrite_mv (i : Nat) (s : ByteArray) {D1 D2 D3 : DevS} {B1 B2 B3 : BkS} (h : RgIs w kb q a P B m j c) (hd : DevIs w a D) (hb : Bd D cc) (hcc : cc < 550000) (hm : m < 70000) (hi : i < P.l) (hs : s.size = 64)
    (hc : P.psi ≤ (c : Int)) (hj : j < 4294967295) (hn : (bankR P).a + sizeZ (bankR P) ≤ (D.n : Int)) (hn1 : D1.n = D.n) (hn2 : D2.n = D.n)
    (hR : (readR D (bankR P) B (fromI P j)).2 = 0) (hW : writeS (bankR P) (toI P j) (readR D (bankR P) B (fromI P j)).1 D B = (0, D1, B1)) (hV : writeWordS (bankR P) ((P.l : Int) + 1) 0 (pkN P (j + 1)) D1 B1 = (0, D2, B2)) (hO : writeS (bankR P) (slotJ P (j + 1) i) s D2 B2 = (0, D3, B3)) :
    Calls Tryz.prog 60 #[.pointer (some ⟨kb, 0, none⟩), .int .i64 (i : Int), .string s] w fun e w' => e = .returned (.int .i64 0) ∧ DevIs w' a D3 ∧ Bd D3 (cc + 4200) ∧ RgIs w' kb q a P B3 (m + 192) (j + 1) (0 + 1) ∧ Gr (kb :: (q.all ++ a.all)) w w' := by
  have hs64 : s.size = 64 := hs
  have HB := Lib.hid (And.intro ((Holds.new w #[.pointer (some ⟨kb, 0, none⟩)] 122).gr0 ((Gr.refl [] _).alloc (Obj.cells #[.string s] 9))) (Holds.new (w.alloc (Obj.cells #[.pointer (some ⟨kb, 0, none⟩)] 122)) #[.string s] 9))
  have g1 : Gr [] w ((w.alloc (Obj.cells #[.pointer (some ⟨kb, 0, none⟩)] 122)).alloc (Obj.cells #[.string s] 9)) := (((Gr.refl [] w).alloc _).alloc _)
  have HLT := Lib.hid (show ∀ x, w.heap.size ≤ x → x ∉ kb :: (q.all ++ a.all) from fun x hx hy => by
    rcases List.mem_cons.1 hy with rfl | hy
    · have := h.head.lt; omega
    · rcases List.mem_append.1 hy with hy | hy
      · have := h.bk.lt _ hy; omega
      · have := hd.lt _ hy; omega)
  obtain ⟨w1, hw1⟩ : ∃ w1, w1 = ((w.alloc (Obj.cells #[.pointer (some ⟨kb, 0, none⟩)] 122)).alloc (Obj.cells #[.string s] 9)) := ⟨_, rfl⟩
  rw [← hw1] at HB g1
  simp only [World.size_alloc] at HB
  have HCh := Lib.hid (change_w_mv i s (h.gr0 g1) (hd.gr0 g1) hb hcc hm hi (by rw [hs]; unfold maxLen; omega) (HB.out.1.cell 0) (HB.out.2.cell 0) (HLT.out _ (by omega)) (HLT.out _ (by omega)) hc hj hn hn1 hn2 hR hW hV hO)
  have e0 : w1.cell? ⟨w.heap.size, 0, none⟩ = some (.pointer (some ⟨kb, 0, none⟩)) := HB.out.1.cell 0
  have e1 : w1.cell? ⟨w.heap.size + 1, 0, none⟩ = some (.string s) := HB.out.2.cell 0
  have HG1 := Lib.hid g1
  clear h hd hb hcc hm hi hs g1 hc hj hn hn1 hn2 hR hW hV hO
  go_enter Tryz.func60, Tryz.ntmps60
  go_upto_region 1 with fail
  rw [← hw1]
  clear hw1
  go_wp2_with fail
  refine HCh.out.mono ?_
  rintro e w2 ⟨rfl, d2, b2, r2, g2⟩
  have H2 := Lib.hid (And.intro d2 (And.intro b2 (And.intro r2 ((HG1.out.of0 (cs := kb :: (q.all ++ a.all))).trans g2))))
  clear d2 b2 r2 g2
  go_wp2_with fail
  go_ret
  exact ⟨rfl, H2.out.1, H2.out.2.1, H2.out.2.2.1, H2.out.2.2.2⟩
end
section
variable {w w' : World} {kb : Nat} {q : BkA} {a : DevA} {P : PlanR} {B : BkS} {m j c cc : Nat} {D : DevS}
set_option maxRecDepth 100000 in
set_option maxHeartbeats 8000000 in
theorem rgww_st (i k v : Nat) {D3 : DevS} {B3 : BkS} (h : RgIs w kb q a P B m j c) (hd : DevIs w a D) (hb : Bd D cc) (hcc : cc < 550000) (hm : m < 70000) (hi : i < P.l) (hk : k < 8) (hv : v < 18446744073709551616)
    (hc : (c : Int) < P.psi) (hn : (bankR P).a + sizeZ (bankR P) ≤ (D.n : Int)) (hO : writeWordS (bankR P) (slotJ P j i) (k : Int) v D B = (0, D3, B3)) :
    Calls Tryz.prog 64 #[.pointer (some ⟨kb, 0, none⟩), .int .i64 (i : Int), .int .i64 (k : Int), .int .u64 (v : Int)] w fun e w' => e = .returned (.int .i64 0) ∧ DevIs w' a D3 ∧ Bd D3 (cc + 4200) ∧ RgIs w' kb q a P B3 (m + 192) j (c + 1) ∧ Gr (kb :: (q.all ++ a.all)) w w' := by
  have ik3 : ¬ ((k : Int) < 0) := by omega
  have ik4 : ¬ ((8 : Int) ≤ (k : Int)) := by omega
  have HB := Lib.hid (And.intro (((Holds.new w #[.pointer (some ⟨kb, 0, none⟩)] 122).gr0 ((Gr.refl [] _).alloc (Obj.cells #[.int .i64 (k : Int)] 3))).gr0 ((Gr.refl [] _).alloc (Obj.cells #[.int .u64 (v : Int)] 22))) (And.intro ((Holds.new (w.alloc (Obj.cells #[.pointer (some ⟨kb, 0, none⟩)] 122)) #[.int .i64 (k : Int)] 3).gr0 ((Gr.refl [] _).alloc (Obj.cells #[.int .u64 (v : Int)] 22))) (Holds.new ((w.alloc (Obj.cells #[.pointer (some ⟨kb, 0, none⟩)] 122)).alloc (Obj.cells #[.int .i64 (k : Int)] 3)) #[.int .u64 (v : Int)] 22)))
  have g1 : Gr [] w (((w.alloc (Obj.cells #[.pointer (some ⟨kb, 0, none⟩)] 122)).alloc (Obj.cells #[.int .i64 (k : Int)] 3)).alloc (Obj.cells #[.int .u64 (v : Int)] 22)) := ((((Gr.refl [] w).alloc _).alloc _).alloc _)
  have HLT := Lib.hid (show ∀ x, w.heap.size ≤ x → x ∉ kb :: (q.all ++ a.all) from fun x hx hy => by
    rcases List.mem_cons.1 hy with rfl | hy
    · have := h.head.lt; omega
    · rcases List.mem_append.1 hy with hy | hy
      · have := h.bk.lt _ hy; omega
      · have := hd.lt _ hy; omega)
  obtain ⟨w1, hw1⟩ : ∃ w1, w1 = (((w.alloc (Obj.cells #[.pointer (some ⟨kb, 0, none⟩)] 122)).alloc (Obj.cells #[.int .i64 (k : Int)] 3)).alloc (Obj.cells #[.int .u64 (v : Int)] 22)) := ⟨_, rfl⟩
  rw [← hw1] at HB g1
  simp only [World.size_alloc] at HB
  have HCh := Lib.hid (change_ww_st i (k : Int) v (h.gr0 g1) (hd.gr0 g1) hb hcc hm hi hv (HB.out.1.cell 0) (HB.out.2.1.cell 0) (HB.out.2.2.cell 0) (HLT.out _ (by omega)) (HLT.out _ (by omega)) (HLT.out _ (by omega)) hc hn hO)
  have e0 : w1.cell? ⟨w.heap.size, 0, none⟩ = some (.pointer (some ⟨kb, 0, none⟩)) := HB.out.1.cell 0
  have e1 : w1.cell? ⟨w.heap.size + 1, 0, none⟩ = some (.int .i64 (k : Int)) := HB.out.2.1.cell 0
  have e2 : w1.cell? ⟨w.heap.size + 1 + 1, 0, none⟩ = some (.int .u64 (v : Int)) := HB.out.2.2.cell 0
  have HG1 := Lib.hid g1
  clear h hd hb hcc hm hi hk hv g1 hc hn hO
  go_enter Tryz.func64, Tryz.ntmps64
  go_upto_region 1 with fail
  rw [← hw1]
  clear hw1
  go_wp2_with fail
  refine HCh.out.mono ?_
  rintro e w2 ⟨rfl, d2, b2, r2, g2⟩
  have H2 := Lib.hid (And.intro d2 (And.intro b2 (And.intro r2 ((HG1.out.of0 (cs := kb :: (q.all ++ a.all))).trans g2))))
  clear d2 b2 r2 g2
  go_wp2_with fail
  go_ret
  exact ⟨rfl, H2.out.1, H2.out.2.1, H2.out.2.2.1, H2.out.2.2.2⟩
end
section
variable {w w' : World} {kb : Nat} {q : BkA} {a : DevA} {P : PlanR} {B : BkS} {m j c cc : Nat} {D : DevS}
set_option maxRecDepth 100000 in
set_option maxHeartbeats 8000000 in
theorem rgww_mv (i k v : Nat) {D1 D2 D3 : DevS} {B1 B2 B3 : BkS} (h : RgIs w kb q a P B m j c) (hd : DevIs w a D) (hb : Bd D cc) (hcc : cc < 550000) (hm : m < 70000) (hi : i < P.l) (hk : k < 8) (hv : v < 18446744073709551616)
    (hc : P.psi ≤ (c : Int)) (hj : j < 4294967295) (hn : (bankR P).a + sizeZ (bankR P) ≤ (D.n : Int)) (hn1 : D1.n = D.n) (hn2 : D2.n = D.n)
    (hR : (readR D (bankR P) B (fromI P j)).2 = 0) (hW : writeS (bankR P) (toI P j) (readR D (bankR P) B (fromI P j)).1 D B = (0, D1, B1)) (hV : writeWordS (bankR P) ((P.l : Int) + 1) 0 (pkN P (j + 1)) D1 B1 = (0, D2, B2)) (hO : writeWordS (bankR P) (slotJ P (j + 1) i) (k : Int) v D2 B2 = (0, D3, B3)) :
    Calls Tryz.prog 64 #[.pointer (some ⟨kb, 0, none⟩), .int .i64 (i : Int), .int .i64 (k : Int), .int .u64 (v : Int)] w fun e w' => e = .returned (.int .i64 0) ∧ DevIs w' a D3 ∧ Bd D3 (cc + 4200) ∧ RgIs w' kb q a P B3 (m + 192) (j + 1) (0 + 1) ∧ Gr (kb :: (q.all ++ a.all)) w w' := by
  have ik3 : ¬ ((k : Int) < 0) := by omega
  have ik4 : ¬ ((8 : Int) ≤ (k : Int)) := by omega
  have HB := Lib.hid (And.intro (((Holds.new w #[.pointer (some ⟨kb, 0, none⟩)] 122).gr0 ((Gr.refl [] _).alloc (Obj.cells #[.int .i64 (k : Int)] 3))).gr0 ((Gr.refl [] _).alloc (Obj.cells #[.int .u64 (v : Int)] 22))) (And.intro ((Holds.new (w.alloc (Obj.cells #[.pointer (some ⟨kb, 0, none⟩)] 122)) #[.int .i64 (k : Int)] 3).gr0 ((Gr.refl [] _).alloc (Obj.cells #[.int .u64 (v : Int)] 22))) (Holds.new ((w.alloc (Obj.cells #[.pointer (some ⟨kb, 0, none⟩)] 122)).alloc (Obj.cells #[.int .i64 (k : Int)] 3)) #[.int .u64 (v : Int)] 22)))
  have g1 : Gr [] w (((w.alloc (Obj.cells #[.pointer (some ⟨kb, 0, none⟩)] 122)).alloc (Obj.cells #[.int .i64 (k : Int)] 3)).alloc (Obj.cells #[.int .u64 (v : Int)] 22)) := ((((Gr.refl [] w).alloc _).alloc _).alloc _)
  have HLT := Lib.hid (show ∀ x, w.heap.size ≤ x → x ∉ kb :: (q.all ++ a.all) from fun x hx hy => by
    rcases List.mem_cons.1 hy with rfl | hy
    · have := h.head.lt; omega
    · rcases List.mem_append.1 hy with hy | hy
      · have := h.bk.lt _ hy; omega
      · have := hd.lt _ hy; omega)
  obtain ⟨w1, hw1⟩ : ∃ w1, w1 = (((w.alloc (Obj.cells #[.pointer (some ⟨kb, 0, none⟩)] 122)).alloc (Obj.cells #[.int .i64 (k : Int)] 3)).alloc (Obj.cells #[.int .u64 (v : Int)] 22)) := ⟨_, rfl⟩
  rw [← hw1] at HB g1
  simp only [World.size_alloc] at HB
  have HCh := Lib.hid (change_ww_mv i (k : Int) v (h.gr0 g1) (hd.gr0 g1) hb hcc hm hi hv (HB.out.1.cell 0) (HB.out.2.1.cell 0) (HB.out.2.2.cell 0) (HLT.out _ (by omega)) (HLT.out _ (by omega)) (HLT.out _ (by omega)) hc hj hn hn1 hn2 hR hW hV hO)
  have e0 : w1.cell? ⟨w.heap.size, 0, none⟩ = some (.pointer (some ⟨kb, 0, none⟩)) := HB.out.1.cell 0
  have e1 : w1.cell? ⟨w.heap.size + 1, 0, none⟩ = some (.int .i64 (k : Int)) := HB.out.2.1.cell 0
  have e2 : w1.cell? ⟨w.heap.size + 1 + 1, 0, none⟩ = some (.int .u64 (v : Int)) := HB.out.2.2.cell 0
  have HG1 := Lib.hid g1
  clear h hd hb hcc hm hi hk hv g1 hc hj hn hn1 hn2 hR hW hV hO
  go_enter Tryz.func64, Tryz.ntmps64
  go_upto_region 1 with fail
  rw [← hw1]
  clear hw1
  go_wp2_with fail
  refine HCh.out.mono ?_
  rintro e w2 ⟨rfl, d2, b2, r2, g2⟩
  have H2 := Lib.hid (And.intro d2 (And.intro b2 (And.intro r2 ((HG1.out.of0 (cs := kb :: (q.all ++ a.all))).trans g2))))
  clear d2 b2 r2 g2
  go_wp2_with fail
  go_ret
  exact ⟨rfl, H2.out.1, H2.out.2.1, H2.out.2.2.1, H2.out.2.2.2⟩
end
end Go.Proofs.YtjbhallhmnahbaaGreat

/-
  Layer 7: Check, Format.
-/
namespace Go.Proofs.YtjbhallhmnahbaaGreat
open Go.RowKit
set_option linter.unusedVariables false

section
variable {w w' : World} {kb : Nat} {q : BkA} {a : DevA} {P : PlanR} {B : BkS} {m j c cc : Nat} {D : DevS}
theorem planR_cells (P : PlanR) (w : World) : (w.alloc (Obj.cells #[.int .i64 P.a, .int .i64 (P.l : Int), .int .i64 P.s, .int .i64 P.psi] 107)).cell? ⟨w.heap.size, 0, none⟩ = some (.int .i64 P.a) ∧ (w.alloc (Obj.cells #[.int .i64 P.a, .int .i64 (P.l : Int), .int .i64 P.s, .int .i64 P.psi] 107)).cell? ⟨w.heap.size, 1, none⟩ = some (.int .i64 (P.l : Int)) ∧ (w.alloc (Obj.cells #[.int .i64 P.a, .int .i64 (P.l : Int), .int .i64 P.s, .int .i64 P.psi] 107)).cell? ⟨w.heap.size, 2, none⟩ = some (.int .i64 P.s) ∧ (w.alloc (Obj.cells #[.int .i64 P.a, .int .i64 (P.l : Int), .int .i64 P.s, .int .i64 P.psi] 107)).cell? ⟨w.heap.size, 3, none⟩ = some (.int .i64 P.psi) := by
  have h := Holds.new w #[.int .i64 P.a, .int .i64 (P.l : Int), .int .i64 P.s, .int .i64 P.psi] 107
  exact ⟨h.cell 0, h.cell 1, h.cell 2, h.cell 3⟩
set_option maxRecDepth 100000 in
set_option maxHeartbeats 8000000 in
theorem rgcheck_any (hP : OkR P) (n : Int) (w : World) : Calls Tryz.prog 83 #[planRV P, .int .i64 n] w fun e w' => e = .returned (.int .i64 (checkZ (bankR P) n)) ∧ Gr [] w w' := by
  obtain ⟨c0, c1, c2, c3⟩ := planR_cells P w
  have HG := Lib.hid ((Gr.refl [] w).alloc (Obj.cells #[.int .i64 P.a, .int .i64 (P.l : Int), .int .i64 P.s, .int .i64 P.psi] 107))
  obtain ⟨w1, hw1⟩ : ∃ w1, w1 = w.alloc (Obj.cells #[.int .i64 P.a, .int .i64 (P.l : Int), .int .i64 P.s, .int .i64 P.psi] 107) := ⟨_, rfl⟩
  obtain ⟨pb, hpb⟩ : ∃ pb, pb = w.heap.size := ⟨_, rfl⟩
  rw [← hpb, ← hw1] at c0 c1 c2 c3
  rw [← hw1] at HG
  have HB := Lib.hid (fun W => show Calls Tryz.prog 84 #[.agg #[.int .i64 P.a, .int .i64 (P.l : Int), .int .i64 P.s, .int .i64 P.psi]] W _ from bankf_any hP W)
  have HC := Lib.hid (fun W => check_any (bankR P) n W)
  obtain ⟨bv, hbv⟩ : ∃ bv, bv = planV (bankR P) := ⟨_, rfl⟩
  rw [← hbv] at HB HC
  obtain ⟨r, hr⟩ : ∃ r, r = checkZ (bankR P) n := ⟨_, rfl⟩
  rw [← hr] at HC ⊢
  have i1 : ¬ ((P.l : Int) < 1) := by have := hP.l1; omega
  have i2 : ¬ ((1024 : Int) < (P.l : Int)) := by have := hP.l2; omega
  have i3 : ¬ (P.psi < 1) := by have := hP.p1; omega
  have i4 : ¬ ((65535 : Int) < P.psi) := by have := hP.p2; omega
  unfold planRV
  clear hP hbv hr
  go_enter Tryz.func83, Tryz.ntmps83
  go_upto_region 1 with fail
  rw [← hw1, ← hpb]
  clear hw1 hpb
  go_wp2_with fail
  refine (HB.out _).mono ?_
  rintro e w2 ⟨rfl, g2⟩
  have HG2 := Lib.hid (HG.out.trans g2)
  clear g2
  go_wp2_with fail
  refine (HC.out _).mono ?_
  rintro e w3 ⟨rfl, b3⟩
  have HG3 := Lib.hid (HG2.out.nextB b3)
  clear b3
  go_wp2_with fail
  go_ret
  exact ⟨rfl, HG3.out⟩
theorem pkN_zero (hP : OkR P) : sAt P.l 0 = 0 ∧ gAt P.l 0 = (P.l : Int) := by
  unfold sAt gAt
  simp
set_option maxRecDepth 100000 in
set_option maxHeartbeats 8000000 in
/-- Format of a fresh device. -/
theorem rgformat_ok {D1 : DevS} {B1 : BkS} (hP : OkR P) (h : DevIs w a D) (hz : Zero D) (hbad : D.bad = fun _ => false) (hb : Bd D cc) (hcc : cc < 400000) (hp : checkZ (bankR P) (D.n : Int) = 0)
    (hV : writeWordS (bankR P) ((P.l : Int) + 1) 0 (pkN P 0) (fmtD (bankR P) (tabZ (bankR P) + (bankR P).l).toNat D) ⟨0, fun _ => none⟩ = (0, D1, B1)) :
    Calls Tryz.prog 46 #[.pointer (some ⟨a.bd, 0, none⟩), planRV P] w fun e w' => e = .returned (.int .i64 0) ∧ DevIs w' a D1 ∧ Bd D1 (cc + 12000) ∧ Gr a.all w w' := by
  obtain ⟨hok, hsz⟩ := check_ok hp
  obtain ⟨h1, h2, h3, h4, h5, h6⟩ := (okZ_iff (bankR P)).1 hok
  have ht : 0 ≤ tabZ (bankR P) ∧ tabZ (bankR P) ≤ 8 := by unfold tabZ; omega
  have hs : sizeZ (bankR P) = tabZ (bankR P) + (bankR P).l + (bankR P).s := by unfold sizeZ; rw [if_pos hok]
  obtain ⟨L, hL⟩ : ∃ L : Nat, L = (tabZ (bankR P) + (bankR P).l).toNat := ⟨_, rfl⟩
  have hL2 : L ≤ 1034 := by omega
  have hLn : (bankR P).a + (L : Int) ≤ (D.n : Int) := by omega
  obtain ⟨z1, n1, b1⟩ := fmt_zero (p := bankR P) hz h1 L hLn
  have HFm := Lib.hid (fun W (g : Gr [] w W) => format_ok (p := bankR P) (h.gr0 g) hz hb (by omega) hp)
  rw [← hL] at HFm hV
  obtain ⟨F, hF⟩ : ∃ F, F = fmtD (bankR P) L D := ⟨_, rfl⟩
  rw [← hF] at HFm hV z1 n1 b1
  have HFF := Lib.hid (And.intro z1 (And.intro n1 (b1.trans hbad)))
  have HOp := Lib.hid (fun W (q1 : DevIs W a F) => open_zero (p := bankR P) q1 HFF.out.1.calm.off (by rw [HFF.out.2.1]; exact hp) (fun k hk => by rw [calm_load HFF.out.1.calm]; exact HFF.out.1.med _))
  obtain ⟨k1, k2⟩ := pkN_val hP 0 (by omega)
  obtain ⟨e1, e2⟩ := pkN_zero hP
  rw [e1, e2] at k1
  have HK := Lib.hid (And.intro k1 k2)
  have HWw := Lib.hid (fun W (q : BkA) (q1 : BkIs W q a (bankR P) ⟨0, fun _ => none⟩ 0) (q2 : DevIs W a F) (q3 : Bd F (cc + 10 * L)) => show Calls Tryz.prog 93 #[.pointer (some ⟨q.b, 0, none⟩), .int .i64 ((P.l : Int) + 1), .int .i64 0, .int .u64 (pkI 0 (P.l : Int) ((0 : Nat) : Int))] W _ by
    rw [← HK.out.1]
    exact bww_any ((P.l : Int) + 1) 0 (pkN P 0) q1 q2 q3 (by omega) HK.out.2 (by rw [HFF.out.2.1]; omega) (by omega))
  rw [hV] at HWw
  have HPk := Lib.hid (fun W => pack_bel 0 (P.l : Int) ((0 : Nat) : Int) W (by omega))
  have HFi := Lib.hid (fun W => first_any (P.l : Int) W (by have := hP.l1; omega) (by have := hP.l2; omega))
  have HB := Lib.hid (fun W => show Calls Tryz.prog 84 #[.agg #[.int .i64 P.a, .int .i64 (P.l : Int), .int .i64 P.s, .int .i64 P.psi]] W _ from bankf_any hP W)
  have HC := Lib.hid (fun W => show Calls Tryz.prog 83 #[.agg #[.int .i64 P.a, .int .i64 (P.l : Int), .int .i64 P.s, .int .i64 P.psi], .int .i64 (D.n : Int)] W _ from rgcheck_any hP (D.n : Int) W)
  rw [hp] at HC
  have HRg := Lib.hid (fun W => show Calls Tryz.prog 94 #[.agg #[.int .i64 P.a, .int .i64 (P.l : Int), .int .i64 P.s, .int .i64 P.psi]] W _ from reg_any hP W)
  obtain ⟨bv, hbv⟩ : ∃ bv, bv = planV (bankR P) := ⟨_, rfl⟩
  rw [← hbv] at HB HFm HOp
  obtain ⟨c0, c1, c2, c3⟩ := planR_cells P w
  have HG := Lib.hid ((Gr.refl [] w).alloc (Obj.cells #[.int .i64 P.a, .int .i64 (P.l : Int), .int .i64 P.s, .int .i64 P.psi] 107))
  obtain ⟨w1, hw1⟩ : ∃ w1, w1 = w.alloc (Obj.cells #[.int .i64 P.a, .int .i64 (P.l : Int), .int .i64 P.s, .int .i64 P.psi] 107) := ⟨_, rfl⟩
  obtain ⟨pb, hpb⟩ : ∃ pb, pb = w.heap.size := ⟨_, rfl⟩
  have HNP := Lib.hid (show pb ∉ a.all ∧ w.heap.size ≤ pb from ⟨fun e => by have := h.lt _ e; omega, by omega⟩)
  rw [← hpb, ← hw1] at c0 c1 c2 c3
  rw [← hw1] at HG
  have HD1 := Lib.hid (h.gr0 HG.out)
  have HLL := Lib.hid hL2
  unfold planRV
  clear hP h hz hbad hb hp hV hok hsz h1 h2 h3 h4 h5 h6 ht hs hL hL2 hLn z1 n1 b1 hF k1 k2 e1 e2 hbv
  generalize pkI 0 (P.l : Int) ((0 : Nat) : Int) = pk at *
  go_enter Tryz.func46, Tryz.ntmps46
  go_upto_region 1 with fail
  rw [← hw1, ← hpb]
  clear hw1 hpb
  have k0 := kp_cell c0
  have k1 := kp_cell c1
  have k2 := kp_cell c2
  have k3 := kp_cell c3
  have hne := kp_ne w1
  go_wp2_with fail
  refine wp_region_kp (by kernel_rfl) (by kernel_rfl) ?_
  repeat (go_big_quiet_step ((rename_i x; first
    | exact kp_call x (linesK (HD1.out.kp x.h))
    | exact kp_call x ((HC.out _).mono fun _ _ q => ⟨q.1, q.2.below0⟩))))
  with_reducible refine wpQuiet_nil ?_
  rintro _ ⟨y, rfl⟩
  have gy : Gr [] w1 y.w := Gr.ofBelow (cs := []) y.h
  have HG2 := Lib.hid (HG.out.trans gy)
  replace c0 := k0 y
  replace c1 := k1 y
  replace c2 := k2 y
  replace c3 := k3 y
  clear k0 k1 k2 k3 hne gy HC HD1 HG
  generalize y.w = w2 at *
  go_wp2_with fail
  refine (HB.out _).mono ?_
  rintro e w3 ⟨rfl, g3⟩
  replace c0 := (g3.cell0 (World.block_lt_of_cell? w2 _ c0)).trans c0
  replace c1 := (g3.cell0 (World.block_lt_of_cell? w2 _ c1)).trans c1
  replace c2 := (g3.cell0 (World.block_lt_of_cell? w2 _ c2)).trans c2
  replace c3 := (g3.cell0 (World.block_lt_of_cell? w2 _ c3)).trans c3
  have HG3 := Lib.hid (HG2.out.trans g3)
  clear g3
  go_wp2_with fail
  refine (HFm.out _ HG3.out).mono ?_
  rintro e w4 ⟨rfl, d4, b4, g4⟩
  replace c0 := (cell_gr7 g4 (World.block_lt_of_cell? w3 _ c0) HNP.out.1).trans c0
  replace c1 := (cell_gr7 g4 (World.block_lt_of_cell? w3 _ c1) HNP.out.1).trans c1
  replace c2 := (cell_gr7 g4 (World.block_lt_of_cell? w3 _ c2) HNP.out.1).trans c2
  replace c3 := (cell_gr7 g4 (World.block_lt_of_cell? w3 _ c3) HNP.out.1).trans c3
  have H4 := Lib.hid (And.intro d4 (And.intro b4 ((HG3.out.of0 (cs := a.all)).trans g4)))
  clear d4 b4 g4 HFm
  go_wp2_with fail
  refine (HB.out _).mono ?_
  rintro e w5 ⟨rfl, g5⟩
  replace c0 := (g5.cell0 (World.block_lt_of_cell? w4 _ c0)).trans c0
  replace c1 := (g5.cell0 (World.block_lt_of_cell? w4 _ c1)).trans c1
  replace c2 := (g5.cell0 (World.block_lt_of_cell? w4 _ c2)).trans c2
  replace c3 := (g5.cell0 (World.block_lt_of_cell? w4 _ c3)).trans c3
  have H5 := Lib.hid (And.intro (H4.out.1.gr0 g5) (And.intro H4.out.2.1 (H4.out.2.2.next0 g5)))
  clear g5 H4
  go_wp2_with fail
  refine (HOp.out _ H5.out.1).mono ?_
  rintro e w6 ⟨q, rfl, kq, hq, g6⟩
  have k0 := kp_cell ((g6.cell0 (World.block_lt_of_cell? w5 _ c0)).trans c0)
  have k1 := kp_cell ((g6.cell0 (World.block_lt_of_cell? w5 _ c1)).trans c1)
  have k2 := kp_cell ((g6.cell0 (World.block_lt_of_cell? w5 _ c2)).trans c2)
  have k3 := kp_cell ((g6.cell0 (World.block_lt_of_cell? w5 _ c3)).trans c3)
  have H6 := Lib.hid (And.intro (H5.out.1.gr0 g6) (And.intro H5.out.2.1 (And.intro (H5.out.2.2.next0 g6) (And.intro kq (show ∀ x ∈ q.all, w.heap.size ≤ x from fun x hx => Nat.le_trans H5.out.2.2.size (hq x hx))))))
  have hne := kp_ne w6
  clear kq hq g6 H5 c0 c1 c2 c3
  go_wp2_with fail
  refine wp_region_kp_tail 7 (by kernel_rfl) (by kernel_rfl) ?_
  simp only [List.take_succ_cons, List.take_zero, List.drop_succ_cons, List.drop_zero]
  repeat (go_big_quiet_step ((rename_i x; first
    | exact kp_call x ((HRg.out _).mono fun _ _ q => ⟨q.1, q.2.below0⟩)
    | exact kp_call x (HFi.out _)
    | exact kp_call x (HPk.out _))))
  with_reducible refine wpQuiet_nil ?_
  rintro _ ⟨y, rfl⟩
  have gy : Gr [] w6 y.w := Gr.ofBelow (cs := []) y.h
  have H7 := Lib.hid (And.intro (H6.out.1.gr0 gy) (And.intro H6.out.2.1 (And.intro (H6.out.2.2.1.next0 gy) (And.intro (H6.out.2.2.2.1.gr0 gy) H6.out.2.2.2.2))))
  clear k0 k1 k2 k3 hne gy H6
  generalize y.w = w7 at *
  go_wp2_with fail
  refine (HWw.out _ _ H7.out.2.2.2.1 H7.out.1 H7.out.2.1).mono ?_
  rintro e w8 ⟨rfl, d8, b8, k8, g8⟩
  have H8 := Lib.hid (And.intro d8 (And.intro b8 (H7.out.2.2.1.nextN g8 fun x hx => by
    rcases List.mem_append.1 hx with hx | hx
    · exact .inr (H7.out.2.2.2.2 x hx)
    · exact .inl hx)))
  clear d8 b8 k8 g8
  go_wp2_with fail
  go_ret
  exact ⟨rfl, H8.out.1, H8.out.2.1.mono (by have := HLL.out; omega), H8.out.2.2⟩
end
end Go.Proofs.YtjbhallhmnahbaaGreat
