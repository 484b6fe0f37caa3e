/-
  Layer 5: a bank in memory; Lines, Left, Where, Read.
-/
import Derived.Test.YtdgcninmpcmdcaaGreatMgW
import Derived.Test.YtdgcninmpcmdcaaGreatNiE
import Derived.Test.YtdgcninmpcmdcaaGreatMgL
namespace Go.Proofs.YtdgcninmpcmdcaaGreat
open Go.RowKit

/-- A bank: how many spares are used, which stands for a line. -/
structure BkS where
  used : Nat
  wh : Int → Option Nat
structure BkA where
  b : Nat
  bm : Nat
def BkA.all (q : BkA) : List Nat := [q.b, q.bm]
structure BkIs (w : World) (q : BkA) (a : DevA) (p : PlanZ) (B : BkS) (m : Nat) : Prop where
  head : Holds w q.b #[.pointer (some ⟨a.bd, 0, none⟩), .int .i64 p.a, .int .i64 p.l, .int .i64 p.s, .int .i64 (B.used : Int), .map (some q.bm)] 136
  map : MapZ niE 3 w q.bm m B.wh
  ok : okZ p = true
  us : (B.used : Int) ≤ p.s
  rg : ∀ x k, B.wh x = some k → ((k : Nat) : Int) < p.s
  ne : q.b ≠ q.bm
  sep : ∀ b ∈ q.all, b ∉ a.all
section
variable {w w' : World} {q : BkA} {a : DevA} {p : PlanZ} {B : BkS} {m : Nat}
theorem BkIs.gr {bs : List Nat} (h : BkIs w q a p B m) (g : Gr bs w w') (hn : ∀ b ∈ q.all, b ∉ bs) : BkIs w' q a p B m :=
  ⟨h.head.gr g (hn _ (by simp [BkA.all])), h.map.gr g (hn _ (by simp [BkA.all])), h.ok, h.us, h.rg, h.ne, h.sep⟩
theorem BkIs.gr0 (h : BkIs w q a p B m) (g : Gr [] w w') : BkIs w' q a p B m := h.gr g (by simp)
theorem BkIs.grD (h : BkIs w q a p B m) (g : Gr a.all w w') : BkIs w' q a p B m := h.gr g h.sep
theorem BkIs.lt (h : BkIs w q a p B m) : ∀ b ∈ q.all, b < w.heap.size := by
  intro b hb
  simp only [BkA.all, List.mem_cons, List.not_mem_nil, or_false] at hb
  rcases hb with rfl | rfl
  · exact h.head.lt
  · exact h.map.lt
theorem BkIs.c0 (h : BkIs w q a p B m) : w.cell? ⟨q.b, 0, none⟩ = some (.pointer (some ⟨a.bd, 0, none⟩)) := h.head.cell 0
theorem BkIs.c1 (h : BkIs w q a p B m) : w.cell? ⟨q.b, 1, none⟩ = some (.int .i64 p.a) := h.head.cell 1
theorem BkIs.c2 (h : BkIs w q a p B m) : w.cell? ⟨q.b, 2, none⟩ = some (.int .i64 p.l) := h.head.cell 2
theorem BkIs.c3 (h : BkIs w q a p B m) : w.cell? ⟨q.b, 3, none⟩ = some (.int .i64 p.s) := h.head.cell 3
theorem BkIs.c4 (h : BkIs w q a p B m) : w.cell? ⟨q.b, 4, none⟩ = some (.int .i64 (B.used : Int)) := h.head.cell 4
theorem BkIs.c5 (h : BkIs w q a p B m) : w.cell? ⟨q.b, 5, none⟩ = some (.map (some q.bm)) := h.head.cell 5
end
/-- The places of a plan's lines and spares. -/
def lineP (p : PlanZ) (i : Int) : Int := p.a + tabZ p + i
def spareP (p : PlanZ) (k : Int) : Int := p.a + tabZ p + p.l + k
def placeP (p : PlanZ) (B : BkS) (i : Int) : Int := match B.wh i with | some k => spareP p k | none => lineP p i
def inP (p : PlanZ) (i : Int) : Prop := 0 ≤ i ∧ i < p.l
instance (p : PlanZ) (i : Int) : Decidable (inP p i) := by unfold inP; infer_instance
theorem bk_nil_where (i : Int) (w : World) : Calls Tryz.prog 80 #[.pointer none, .int .i64 i] w fun e w' => e = .returned (.tuple #[.int .i64 0, .int .i64 1]) ∧ w' = w := by
  go_enter Tryz.func80, Tryz.ntmps80
  go_wp2_with fail
  go_ret2
  exact ⟨rfl, rfl⟩
section
variable {w : World} {q : BkA} {a : DevA} {p : PlanZ} {B : BkS} {m : Nat}
theorem left_at (h : BkIs w q a p B m) : Calls Tryz.prog 119 #[.pointer (some ⟨q.b, 0, none⟩)] w fun e w' => e = .returned (.int .i64 (p.s - (B.used : Int))) ∧ Gr [] w w' := by
  have c3 := h.c3
  have c4 := h.c4
  obtain ⟨h1, h2, h3, h4, h5, h6⟩ := (okZ_iff _).1 h.ok
  have hu := h.us
  have i1 : IntKind.i64.wrap (p.s - (B.used : Int)) = p.s - (B.used : Int) := IntWalk.i64_in _ (by omega)
  clear h h1 h2 h3 h4 h5 h6 hu
  go_enter Tryz.func119, Tryz.ntmps119
  go_wp2_with fail
  go_quiet (fail)
  go_wp2_with fail
  go_ret
  exact ⟨rfl, (Gr.refl [] w).drewN _⟩
theorem where_out (i : Int) (h : BkIs w q a p B m) (hi : ¬ inP p i) : Calls Tryz.prog 80 #[.pointer (some ⟨q.b, 0, none⟩), .int .i64 i] w fun e w' => e = .returned (.tuple #[.int .i64 0, .int .i64 3]) ∧ w' = w := by
  have c2 := h.c2
  clear h
  by_cases h0 : i < 0
  · clear hi
    go_enter Tryz.func80, Tryz.ntmps80
    go_wp2_with fail
    go_ret2
    exact ⟨rfl, rfl⟩
  · have h1 : p.l ≤ i := by unfold inP at hi; omega
    clear hi
    go_enter Tryz.func80, Tryz.ntmps80
    go_wp2_with fail
    go_ret2
    exact ⟨rfl, rfl⟩
set_option maxHeartbeats 2000000 in
set_option maxRecDepth 100000 in
theorem where_in (i : Int) (h : BkIs w q a p B m) (hi : inP p i) : Calls Tryz.prog 80 #[.pointer (some ⟨q.b, 0, none⟩), .int .i64 i] w fun e w' => e = .returned (.tuple #[.int .i64 (placeP p B i), .int .i64 0]) ∧ Gr [] w w' := by
  obtain ⟨h1, h2, h3, h4, h5, h6⟩ := (okZ_iff _).1 h.ok
  have c1 := h.c1
  have c2 := h.c2
  have c3 := h.c3
  have c5 := h.c5
  obtain ⟨i0, i1⟩ : 0 ≤ i ∧ i < p.l := hi
  have hwf : WfZ i := wfZ (by omega) (by omega)
  have HLK := Lib.hid (h.map.look_ok Tryz.underlying3 (show Tryz.prog.underlying 134 = some (.map 3 3) from Tryz.underlying134) hwf)
  cases e : B.wh i with
  | some k =>
    have hk := h.rg i k e
    have HP := Lib.hid (show placeP p B i = spareP p k by unfold placeP; rw [e])
    have HS := Lib.hid (show Calls Tryz.prog 116 #[.agg #[.int .i64 p.a, .int .i64 p.l, .int .i64 p.s], .int .i64 (k : Int)] w _ from spareat_any p h.ok (k : Int) (by omega) (by omega) w)
    have hlk := HLK.out
    rw [e] at hlk
    replace hlk : _ = Result.ok (Value.tuple #[.int .i64 (k : Int), .bool true]) w := hlk
    clear h HLK e hwf hk
    go_enter Tryz.func80, Tryz.ntmps80
    go_wp2_with fail
    refine HS.out.mono ?_
    rintro e w2 ⟨rfl, hb⟩
    have HG := Lib.hid (Gr.ofBelow (cs := []) hb)
    clear hb
    go_wp2_with fail
    go_ret2
    exact ⟨by rw [HP.out]; rfl, HG.out⟩
  | none =>
    have HP := Lib.hid (show placeP p B i = lineP p i by unfold placeP; rw [e])
    have HS := Lib.hid (show Calls Tryz.prog 117 #[.agg #[.int .i64 p.a, .int .i64 p.l, .int .i64 p.s], .int .i64 i] w _ from lineat_any p h.ok i (by omega) (by omega) w)
    have hlk := HLK.out
    rw [e] at hlk
    replace hlk : _ = Result.ok (Value.tuple #[.int .i64 0, .bool false]) w := hlk
    clear h HLK e hwf
    go_enter Tryz.func80, Tryz.ntmps80
    go_wp2_with fail
    refine HS.out.mono ?_
    rintro e w2 ⟨rfl, hb⟩
    have HG := Lib.hid (Gr.ofBelow (cs := []) hb)
    clear hb
    go_wp2_with fail
    go_ret2
    exact ⟨by rw [HP.out]; rfl, HG.out⟩
/-- Where a line's place is on the device. -/
theorem place_in {n : Nat} (h : BkIs w q a p B m) (hn : p.a + sizeZ p ≤ (n : Int)) {i : Int} (hi : inP p i) : ∃ l : Nat, placeP p B i = (l : Int) ∧ l < n := by
  obtain ⟨h1, h2, h3, h4, h5, h6⟩ := (okZ_iff _).1 h.ok
  obtain ⟨i0, i1⟩ : 0 ≤ i ∧ i < p.l := hi
  have hs : sizeZ p = tabZ p + p.l + p.s := by unfold sizeZ; rw [if_pos h.ok]
  have ht : 0 ≤ tabZ p := by unfold tabZ; omega
  unfold placeP
  cases e : B.wh i with
  | some k =>
    have := h.rg i k e
    exact ⟨(spareP p k).toNat, by simp only; unfold spareP; omega, by unfold spareP; omega⟩
  | none => exact ⟨(lineP p i).toNat, by simp only; unfold lineP; omega, by unfold lineP; omega⟩
def readR (D : DevS) (p : PlanZ) (B : BkS) (i : Int) : ByteArray × Int := if inP p i then (if D.off then (⟨#[]⟩, 6) else (⟨(getT D (placeP p B i).toNat).toArray⟩, 0)) else (⟨#[]⟩, 3)
theorem read_any {D : DevS} (i : Int) (h : BkIs w q a p B m) (hd : DevIs w a D) (hn : p.a + sizeZ p ≤ (D.n : Int)) :
    Calls Tryz.prog 49 #[.pointer (some ⟨q.b, 0, none⟩), .int .i64 i] w fun e w' => e = .returned (.tuple #[.string (readR D p B i).1, .int .i64 (readR D p B i).2]) ∧ Gr [] w w' := by
  have c0 := h.c0
  by_cases hi : inP p i
  · have HW := Lib.hid (where_in i h hi)
    obtain ⟨l, hl, hln⟩ := place_in h hn hi
    rw [hl] at HW
    have HB := Lib.hid h
    by_cases ho : D.off = true
    · have hr : readR D p B i = (⟨#[]⟩, 6) := by unfold readR; rw [if_pos hi, if_pos ho]
      rw [hr]
      have he : reachE D (isLine D (l : Int)) = 6 := by unfold reachE; rw [if_pos ho]
      have HGt := Lib.hid (fun W (hd : DevIs W a D) => get_err a D (l : Int) W hd (by rw [he]; decide))
      rw [he] at HGt
      have HD := Lib.hid hd
      clear hr h hd hn hi hl ho he
      go_enter Tryz.func49, Tryz.ntmps49
      go_wp2_with fail
      refine HW.out.mono ?_
      rintro e w2 ⟨rfl, g2⟩
      have HG := Lib.hid g2
      have c0 := (HB.out.gr0 g2).c0
      clear g2
      go_wp2_with fail
      refine (HGt.out _ (HD.out.gr0 HG.out)).mono ?_
      rintro e w3 ⟨rfl, rfl⟩
      go_wp2_with fail
      go_ret2
      exact ⟨rfl, HG.out⟩
    · have ho : D.off = false := by simpa using ho
      have hr : readR D p B i = (⟨(getT D l).toArray⟩, 0) := by unfold readR; rw [if_pos hi, ho, hl]; simp
      rw [hr]
      have HGt := Lib.hid (fun W (hd : DevIs W a D) => get_yes a D l W hd hln ho)
      have HD := Lib.hid hd
      clear hr h hd hn hi hl ho hln
      go_enter Tryz.func49, Tryz.ntmps49
      go_wp2_with fail
      refine HW.out.mono ?_
      rintro e w2 ⟨rfl, g2⟩
      have HG := Lib.hid g2
      have c0 := (HB.out.gr0 g2).c0
      clear g2
      go_wp2_with fail
      refine (HGt.out _ (HD.out.gr0 HG.out)).mono ?_
      rintro e w3 ⟨rfl, g3⟩
      have HG3 := Lib.hid g3
      clear g3
      go_wp2_with fail
      go_ret2
      exact ⟨rfl, HG.out.next0 HG3.out⟩
  · have hr : readR D p B i = (⟨#[]⟩, 3) := by unfold readR; rw [if_neg hi]
    rw [hr]
    have HW := Lib.hid (where_out i h hi)
    clear h hd hn hr hi
    go_enter Tryz.func49, Tryz.ntmps49
    go_wp2_with fail
    refine HW.out.mono ?_
    rintro e w2 ⟨rfl, hw⟩
    rw [hw]
    go_wp2_with fail
    go_ret2
    exact ⟨rfl, Gr.refl _ _⟩
end
end Go.Proofs.YtdgcninmpcmdcaaGreat
