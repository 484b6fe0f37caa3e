/-
  RingAlike.
-/
import Derived.Test.YtdgcninmpcmdcaaMgAa
import Derived.Test.YtdgcninmpcmdcaaRgK
import Derived.Test.YtdgcninmpcmdcaaMgV
import Derived.Deep.CutBlock
namespace Go.Proofs.Ytdgcninmpcmdcaa
open Go.RowKit
set_option linter.unusedVariables false

theorem tG {W W' : World} {b : Nat} {x0 x1 x2 x3 y0 y1 y2 y3 : Value} (h : b + 1 < W.heap.size ∧ W.cell? ⟨b, 0, none⟩ = some x0 ∧ W.cell? ⟨b, 1, none⟩ = some x1 ∧ W.cell? ⟨b, 2, none⟩ = some x2 ∧ W.cell? ⟨b, 3, none⟩ = some x3 ∧ W.cell? ⟨b + 1, 0, none⟩ = some y0 ∧ W.cell? ⟨b + 1, 1, none⟩ = some y1 ∧ W.cell? ⟨b + 1, 2, none⟩ = some y2 ∧ W.cell? ⟨b + 1, 3, none⟩ = some y3) (g : Gr [] W W') : b + 1 < W'.heap.size ∧ W'.cell? ⟨b, 0, none⟩ = some x0 ∧ W'.cell? ⟨b, 1, none⟩ = some x1 ∧ W'.cell? ⟨b, 2, none⟩ = some x2 ∧ W'.cell? ⟨b, 3, none⟩ = some x3 ∧ W'.cell? ⟨b + 1, 0, none⟩ = some y0 ∧ W'.cell? ⟨b + 1, 1, none⟩ = some y1 ∧ W'.cell? ⟨b + 1, 2, none⟩ = some y2 ∧ W'.cell? ⟨b + 1, 3, none⟩ = some y3 := by
  obtain ⟨h0, h1, h2, h3, h4, h5, h6, h7, h8⟩ := h
  have hb : b < W.heap.size := by omega
  exact ⟨Nat.lt_of_lt_of_le h0 g.size, (g.cell0 hb).trans h1, (g.cell0 hb).trans h2, (g.cell0 hb).trans h3, (g.cell0 hb).trans h4, (g.cell0 h0).trans h5, (g.cell0 h0).trans h6, (g.cell0 h0).trans h7, (g.cell0 h0).trans h8⟩
theorem tAl {W : World} {b : Nat} {x0 x1 x2 x3 y0 y1 y2 y3 : Value} (h : b + 1 < W.heap.size ∧ W.cell? ⟨b, 0, none⟩ = some x0 ∧ W.cell? ⟨b, 1, none⟩ = some x1 ∧ W.cell? ⟨b, 2, none⟩ = some x2 ∧ W.cell? ⟨b, 3, none⟩ = some x3 ∧ W.cell? ⟨b + 1, 0, none⟩ = some y0 ∧ W.cell? ⟨b + 1, 1, none⟩ = some y1 ∧ W.cell? ⟨b + 1, 2, none⟩ = some y2 ∧ W.cell? ⟨b + 1, 3, none⟩ = some y3) (o : Obj) : b + 1 < (W.alloc o).heap.size ∧ (W.alloc o).cell? ⟨b, 0, none⟩ = some x0 ∧ (W.alloc o).cell? ⟨b, 1, none⟩ = some x1 ∧ (W.alloc o).cell? ⟨b, 2, none⟩ = some x2 ∧ (W.alloc o).cell? ⟨b, 3, none⟩ = some x3 ∧ (W.alloc o).cell? ⟨b + 1, 0, none⟩ = some y0 ∧ (W.alloc o).cell? ⟨b + 1, 1, none⟩ = some y1 ∧ (W.alloc o).cell? ⟨b + 1, 2, none⟩ = some y2 ∧ (W.alloc o).cell? ⟨b + 1, 3, none⟩ = some y3 := tG h ((Gr.refl [] W).alloc o)
theorem tDr {W : World} {b : Nat} {x0 x1 x2 x3 y0 y1 y2 y3 : Value} (h : b + 1 < W.heap.size ∧ W.cell? ⟨b, 0, none⟩ = some x0 ∧ W.cell? ⟨b, 1, none⟩ = some x1 ∧ W.cell? ⟨b, 2, none⟩ = some x2 ∧ W.cell? ⟨b, 3, none⟩ = some x3 ∧ W.cell? ⟨b + 1, 0, none⟩ = some y0 ∧ W.cell? ⟨b + 1, 1, none⟩ = some y1 ∧ W.cell? ⟨b + 1, 2, none⟩ = some y2 ∧ W.cell? ⟨b + 1, 3, none⟩ = some y3) : b + 1 < W.drew.heap.size ∧ W.drew.cell? ⟨b, 0, none⟩ = some x0 ∧ W.drew.cell? ⟨b, 1, none⟩ = some x1 ∧ W.drew.cell? ⟨b, 2, none⟩ = some x2 ∧ W.drew.cell? ⟨b, 3, none⟩ = some x3 ∧ W.drew.cell? ⟨b + 1, 0, none⟩ = some y0 ∧ W.drew.cell? ⟨b + 1, 1, none⟩ = some y1 ∧ W.drew.cell? ⟨b + 1, 2, none⟩ = some y2 ∧ W.drew.cell? ⟨b + 1, 3, none⟩ = some y3 := tG h (Gr.refl [] W).drew
theorem tSt {W : World} {b : Nat} {x0 x1 x2 x3 y0 y1 y2 y3 : Value} (h : b + 1 < W.heap.size ∧ W.cell? ⟨b, 0, none⟩ = some x0 ∧ W.cell? ⟨b, 1, none⟩ = some x1 ∧ W.cell? ⟨b, 2, none⟩ = some x2 ∧ W.cell? ⟨b, 3, none⟩ = some x3 ∧ W.cell? ⟨b + 1, 0, none⟩ = some y0 ∧ W.cell? ⟨b + 1, 1, none⟩ = some y1 ∧ W.cell? ⟨b + 1, 2, none⟩ = some y2 ∧ W.cell? ⟨b + 1, 3, none⟩ = some y3) {p : Addr} (hp : b + 1 < p.block) (v : Value) : b + 1 < (W.setCell p v).heap.size ∧ (W.setCell p v).cell? ⟨b, 0, none⟩ = some x0 ∧ (W.setCell p v).cell? ⟨b, 1, none⟩ = some x1 ∧ (W.setCell p v).cell? ⟨b, 2, none⟩ = some x2 ∧ (W.setCell p v).cell? ⟨b, 3, none⟩ = some x3 ∧ (W.setCell p v).cell? ⟨b + 1, 0, none⟩ = some y0 ∧ (W.setCell p v).cell? ⟨b + 1, 1, none⟩ = some y1 ∧ (W.setCell p v).cell? ⟨b + 1, 2, none⟩ = some y2 ∧ (W.setCell p v).cell? ⟨b + 1, 3, none⟩ = some y3 := by
  obtain ⟨h0, h1, h2, h3, h4, h5, h6, h7, h8⟩ := h
  have key : ∀ c i x, c ≤ b + 1 → W.cell? ⟨c, i, none⟩ = some x → (W.setCell p v).cell? ⟨c, i, none⟩ = some x := fun c i x hc e => (World.cell?_setCell_far W p ⟨c, i, none⟩ v (fun q => by simp only at q; omega)).trans e
  exact ⟨by rw [World.size_setCell]; exact h0, key _ _ _ (by omega) h1, key _ _ _ (by omega) h2, key _ _ _ (by omega) h3, key _ _ _ (by omega) h4, key _ _ _ (by omega) h5, key _ _ _ (by omega) h6, key _ _ _ (by omega) h7, key _ _ _ (by omega) h8⟩
theorem cf4 {W : World} {b : Nat} {x0 x1 x2 x3 : Value} {T : TypeId} (h : Holds W b #[x0, x1, x2, x3] T) : W.cell? ⟨b, 0, none⟩ = some x0 ∧ W.cell? ⟨b, 1, none⟩ = some x1 ∧ W.cell? ⟨b, 2, none⟩ = some x2 ∧ W.cell? ⟨b, 3, none⟩ = some x3 ∧ W.frozen? ⟨b, 0, none⟩ = false ∧ W.frozen? ⟨b, 1, none⟩ = false ∧ W.frozen? ⟨b, 2, none⟩ = false ∧ W.frozen? ⟨b, 3, none⟩ = false ∧ b < W.heap.size ∧ W.heap.size ≠ b ∧ b ≠ W.heap.size :=
  ⟨h.cell 0, h.cell 1, h.cell 2, h.cell 3, h.frozen 0, h.frozen 1, h.frozen 2, h.frozen 3, h.lt, Nat.ne_of_gt h.lt, Nat.ne_of_lt h.lt⟩
theorem hc8 {W : World} {b : Nat} {x0 x1 x2 x3 y0 y1 y2 y3 : Value} {T T' : TypeId} (h : Holds W b #[x0, x1, x2, x3] T) (h' : Holds W (b + 1) #[y0, y1, y2, y3] T') : b + 1 < W.heap.size ∧ W.cell? ⟨b, 0, none⟩ = some x0 ∧ W.cell? ⟨b, 1, none⟩ = some x1 ∧ W.cell? ⟨b, 2, none⟩ = some x2 ∧ W.cell? ⟨b, 3, none⟩ = some x3 ∧ W.cell? ⟨b + 1, 0, none⟩ = some y0 ∧ W.cell? ⟨b + 1, 1, none⟩ = some y1 ∧ W.cell? ⟨b + 1, 2, none⟩ = some y2 ∧ W.cell? ⟨b + 1, 3, none⟩ = some y3 :=
  ⟨h'.lt, h.cell 0, h.cell 1, h.cell 2, h.cell 3, h'.cell 0, h'.cell 1, h'.cell 2, h'.cell 3⟩
theorem al1 {W w' : World} {cs : Array Value} {t : TypeId} (g : Gr [] (W.alloc (Obj.cells cs t)) w') : Holds w' W.heap.size cs t := (Holds.new W cs t).gr0 g
theorem al2 {W w' : World} {cs cs' : Array Value} {t t' : TypeId} (g : Gr [] ((W.alloc (Obj.cells cs t)).alloc (Obj.cells cs' t')) w') : Holds w' W.heap.size cs t ∧ Holds w' (W.heap.size + 1) cs' t' := by
  have h1 := ((Holds.new W cs t).alloc (Obj.cells cs' t')).gr0 g
  have h2 := (Holds.new (W.alloc (Obj.cells cs t)) cs' t').gr0 g
  rw [World.size_alloc] at h2
  exact ⟨h1, h2⟩
theorem al1d {W w' : World} {cs : Array Value} {t : TypeId} (g : Gr [] (W.alloc (Obj.cells cs t)).drew w') : Holds w' W.heap.size cs t := al1 ((Gr.refl [] _).drew.next0 g)
theorem al2d {W w' : World} {cs cs' : Array Value} {t t' : TypeId} (g : Gr [] ((W.alloc (Obj.cells cs t)).alloc (Obj.cells cs' t')).drew w') : Holds w' W.heap.size cs t ∧ Holds w' (W.heap.size + 1) cs' t' := al2 ((Gr.refl [] _).drew.next0 g)
theorem newB {W : World} {b : Nat} {cs : Array Value} {t : TypeId} (h : b = W.heap.size) : Holds (W.alloc (.cells cs t)) b cs t := by
  subst h
  exact Holds.new W cs t
theorem farB {W : World} {b : Nat} {cs : Array Value} {t : TypeId} {a : Addr} {u : Value} (hn : b ≠ a.block) (h : Holds W b cs t) : Holds (W.setCell a u) b cs t := h.far hn u
theorem alB {W : World} {b : Nat} {cs : Array Value} {t : TypeId} {o : Obj} (h : Holds W b cs t) : Holds (W.alloc o) b cs t := h.alloc o
theorem grS {w W : World} {p : Addr} {v : Value} (hp : w.heap.size ≤ p.block) (h : Gr [] w W) : Gr [] w (W.setCell p v) := h.setCell (.inr hp) v
theorem holds4 {W : World} {b : Nat} {a0 a1 a2 a3 x0 x1 x2 x3 : Value} {T : TypeId} (h : Holds W b #[a0, a1, a2, a3] T) : Holds ((((W.setCell ⟨b, 0, none⟩ x0).setCell ⟨b, 1, none⟩ x1).setCell ⟨b, 2, none⟩ x2).setCell ⟨b, 3, none⟩ x3) b #[x0, x1, x2, x3] T := by
  have := (((h.set 0 x0).set 1 x1).set 2 x2).set 3 x3
  simpa using this

/-- The law's own cells: the first plan, the two regions' pointers, the plans' list. -/
structure Al0 (w : World) (pb rb sb : Nat) (P Q : PlanR) (v1 v2 : Value) (wr : World) : Prop where
  gr : Gr [] w wr
  pl : Holds wr pb #[.int .i64 P.a, .int .i64 (P.l : Int), .int .i64 P.s, .int .i64 P.psi] 25
  sl : Holds wr sb #[.int .i64 P.a, .int .i64 (P.l : Int), .int .i64 P.s, .int .i64 P.psi, .int .i64 Q.a, .int .i64 (P.l : Int), .int .i64 Q.s, .int .i64 Q.psi] 25
  rg : Holds wr rb #[v1, v2] 47
  lt : w.heap.size ≤ pb ∧ pb < rb ∧ rb < sb
section
variable {w wr w2 : World} {pb rb sb : Nat} {P Q : PlanR} {v1 v2 : Value}
theorem Al0.next (h : Al0 w pb rb sb P Q v1 v2 wr) {bs : List Nat} (g : Gr bs wr w2) (hb : ∀ x ∈ bs, sb < x) : Al0 w pb rb sb P Q v1 v2 w2 := by
  have hl := h.lt
  exact ⟨h.gr.nextN g fun x hx => .inr (by have := hb x hx; omega), h.pl.gr g fun hx => by have := hb _ hx; omega, h.sl.gr g fun hx => by have := hb _ hx; omega, h.rg.gr g fun hx => by have := hb _ hx; omega, hl⟩
theorem Al0.next0 (h : Al0 w pb rb sb P Q v1 v2 wr) (g : Gr [] wr w2) : Al0 w pb rb sb P Q v1 v2 w2 := h.next g (by simp)
theorem Al0.set0 (h : Al0 w pb rb sb P Q v1 v2 wr) (u : Value) : Al0 w pb rb sb P Q u v2 (wr.setCell ⟨rb, 0, none⟩ u) := by
  have hl := h.lt
  exact ⟨h.gr.setCell (.inr (by simp only; omega)) u, h.pl.far (by simp only; omega) u, h.sl.far (by simp only; omega) u, by simpa using h.rg.set 0 u, hl⟩
theorem Al0.set1 (h : Al0 w pb rb sb P Q v1 v2 wr) (u : Value) : Al0 w pb rb sb P Q v1 u (wr.setCell ⟨rb, 1, none⟩ u) := by
  have hl := h.lt
  exact ⟨h.gr.setCell (.inr (by simp only; omega)) u, h.pl.far (by simp only; omega) u, h.sl.far (by simp only; omega) u, by simpa using h.rg.set 1 u, hl⟩
theorem RR.setB {kb : Nat} {q : BkA} {a : DevA} {F : Nat → Nat → Nat} {n i : Nat} (h : RR P kb q a F n wr) (hl : ∀ x ∈ kb :: (q.all ++ a.all), sb < x) (hb : rb < sb) (u : Value) : RR P kb q a F n (wr.setCell ⟨rb, i, none⟩ u) :=
  h.gr ((Gr.refl [rb] wr).setCell (.inl (by simp)) u) fun x hx e => by have := hl x hx; have := List.mem_singleton.1 e; omega
theorem RR.more {kb : Nat} {q : BkA} {a : DevA} {F : Nat → Nat → Nat} {n m : Nat} (h : RR P kb q a F n wr) (hm : n ≤ m) : RR P kb q a F m wr := by
  obtain ⟨hP, D, j, c, h1, h2, h3, h4, h5, h6⟩ := h
  exact ⟨hP, D, j, c, h1, by omega, h3, h4.moreN (by omega), h5, h6.mono (by omega)⟩
end
/-- The two regions, behind so many writes each. -/
structure Al2 (w : World) (pb rb sb : Nat) (P Q : PlanR) (k1 : Nat) (q1 : BkA) (a1 : DevA) (k2 : Nat) (q2 : BkA) (a2 : DevA) (F G : Nat → Nat → Nat) (m n : Nat) (wr : World) : Prop where
  b : Al0 w pb rb sb P Q (.pointer (some ⟨k1, 0, none⟩)) (.pointer (some ⟨k2, 0, none⟩)) wr
  A : RR P k1 q1 a1 F m wr
  B : RR Q k2 q2 a2 G n wr
  l1 : ∀ x ∈ k1 :: (q1.all ++ a1.all), sb < x
  l2 : ∀ x ∈ k2 :: (q2.all ++ a2.all), sb < x ∧ x ∉ k1 :: (q1.all ++ a1.all)
section
variable {w wr w2 : World} {pb rb sb : Nat} {P Q : PlanR} {k1 : Nat} {q1 : BkA} {a1 : DevA} {k2 : Nat} {q2 : BkA} {a2 : DevA} {F G F2 : Nat → Nat → Nat} {m n m2 : Nat}
theorem Al2.next0 (h : Al2 w pb rb sb P Q k1 q1 a1 k2 q2 a2 F G m n wr) (g : Gr [] wr w2) : Al2 w pb rb sb P Q k1 q1 a1 k2 q2 a2 F G m n w2 := ⟨h.b.next0 g, h.A.gr0 g, h.B.gr0 g, h.l1, h.l2⟩
theorem Al2.put1 (h : Al2 w pb rb sb P Q k1 q1 a1 k2 q2 a2 F G m n wr) (g : Gr (k1 :: (q1.all ++ a1.all)) wr w2) (r : RR P k1 q1 a1 F2 m2 w2) : Al2 w pb rb sb P Q k1 q1 a1 k2 q2 a2 F2 G m2 n w2 :=
  ⟨h.b.next g h.l1, r, h.B.gr g fun x hx => (h.l2 x hx).2, h.l1, h.l2⟩
theorem Al2.put2 (h : Al2 w pb rb sb P Q k1 q1 a1 k2 q2 a2 F G m n wr) (g : Gr (k2 :: (q2.all ++ a2.all)) wr w2) (r : RR Q k2 q2 a2 F2 m2 w2) : Al2 w pb rb sb P Q k1 q1 a1 k2 q2 a2 F F2 m m2 w2 :=
  ⟨h.b.next g fun x hx => (h.l2 x hx).1, h.A.gr g fun x hx e => (h.l2 x e).2 hx, r, h.l1, h.l2⟩
theorem Al2.more (h : Al2 w pb rb sb P Q k1 q1 a1 k2 q2 a2 F G m n wr) {k : Nat} (hm : m ≤ k) (hn : n ≤ k) : Al2 w pb rb sb P Q k1 q1 a1 k2 q2 a2 F G k k wr := ⟨h.b, h.A.more hm, h.B.more hn, h.l1, h.l2⟩
theorem ak3 {v1 v2 x0 x1 x2 x3 x4 x5 : Value} {tb : Nat} {T : TypeId} (h : Al0 w pb rb sb P Q v1 v2 wr) (t : Holds wr tb #[x0, x1, x2, x3, x4, x5] T) : wr.cell? ⟨rb, 0, none⟩ = some v1 ∧ wr.cell? ⟨rb, 1, none⟩ = some v2 ∧ wr.cell? ⟨tb, 1, none⟩ = some x1 := ⟨h.rg.cell 0, h.rg.cell 1, t.cell 1⟩
theorem ak5 {v1 v2 x0 x1 x2 x3 x4 x5 : Value} {tb : Nat} {T : TypeId} (h : Al0 w pb rb sb P Q v1 v2 wr) (t : Holds wr tb #[x0, x1, x2, x3, x4, x5] T) : wr.cell? ⟨rb, 0, none⟩ = some v1 ∧ wr.cell? ⟨rb, 1, none⟩ = some v2 ∧ wr.cell? ⟨tb, 1, none⟩ = some x1 ∧ wr.cell? ⟨tb, 2, none⟩ = some x2 ∧ wr.cell? ⟨tb, 3, none⟩ = some x3 := ⟨h.rg.cell 0, h.rg.cell 1, t.cell 1, t.cell 2, t.cell 3⟩
end
set_option maxRecDepth 100000 in
set_option maxHeartbeats 40000000 in
theorem alike_law (x0 x1 x2 x3 y0 y1 y2 y3 : Int) (v : Value) {w : World} (hv : SlL w v) :
    Calls Try.prog 4 #[.agg #[.int .i64 x0, .int .i64 x1, .int .i64 x2, .int .i64 x3], .agg #[.int .i64 y0, .int .i64 y1, .int .i64 y2, .int .i64 y3], v] w fun e w' => e = .returned (.bool true) ∧ Gr [] w w' := by
  have HV := Lib.hid hv
  have HSx := Lib.hid (fun W => small07 x0 x1 x2 x3 W)
  have HSy := Lib.hid (fun W => small07 y0 y1 y2 y3 W)
  obtain ⟨t1, t2, t3, t4, t5, t6, t7, t8⟩ := smallR_ok x0 x1 x2 x3
  obtain ⟨u1, u2, u3, u4, u5, u6, u7, u8⟩ := smallR_ok y0 y1 y2 y3
  obtain ⟨P, hP⟩ : ∃ P, P = smallR x0 x1 x2 x3 := ⟨_, rfl⟩
  obtain ⟨R, hR⟩ : ∃ R, R = smallR y0 y1 y2 y3 := ⟨_, rfl⟩
  rw [← hP] at HSx t1 t2 t3 t4 t5 t6 t7 t8
  rw [← hR] at HSy u1 u2 u3 u4 u5 u6 u7 u8
  obtain ⟨Q, hQ⟩ : ∃ Q : PlanR, Q = ⟨R.a, P.l, R.s, R.psi⟩ := ⟨_, rfl⟩
  have hQa : R.a = Q.a := by rw [hQ]
  have hQl : Q.l = P.l := by rw [hQ]
  have hQp : R.psi = Q.psi := by rw [hQ]
  have hQs : R.s = Q.s := by rw [hQ]
  obtain ⟨oP, fP⟩ := small_okR t2 t1 t3 t4 t5 t6 t7 t8
  obtain ⟨oQ, fQ⟩ := small_okR (P := Q) (by omega) (by omega) (by omega) (by omega) (by omega) (by omega) (by omega) (by omega)
  obtain ⟨EP, P1, P2⟩ := RR.begin oP fP
  obtain ⟨EQ, Q1, Q2⟩ := RR.begin oQ fQ
  have HP1 := Lib.hid P1
  have HP2 := Lib.hid P2
  have HQ1 := Lib.hid Q1
  have HQ2 := Lib.hid Q2
  have HL := Lib.hid (And.intro t1 t2)
  have HQL := Lib.hid hQl
  unfold planRV at HSx HSy HP1 HP2 HQ1 HQ2
  rw [hQa, hQs, hQp] at HSy
  rw [hQl] at HQ1 HQ2
  obtain ⟨rl, hrl⟩ : ∃ rl, rl = R.l := ⟨_, rfl⟩
  rw [← hrl] at HSy
  have hGx := (((Gr.refl [] w).alloc (Obj.cells #[.int .i64 x0, .int .i64 x1, .int .i64 x2, .int .i64 x3] 22)).alloc (Obj.cells #[.int .i64 y0, .int .i64 y1, .int .i64 y2, .int .i64 y3] 22))
  have hA := ((Holds.new w #[.int .i64 x0, .int .i64 x1, .int .i64 x2, .int .i64 x3] 22).alloc (Obj.cells #[.int .i64 y0, .int .i64 y1, .int .i64 y2, .int .i64 y3] 22))
  have hB := Holds.new (w.alloc (Obj.cells #[.int .i64 x0, .int .i64 x1, .int .i64 x2, .int .i64 x3] 22)) #[.int .i64 y0, .int .i64 y1, .int .i64 y2, .int .i64 y3] 22
  rw [World.size_alloc] at hB
  have HG := Lib.hid hGx
  have HA := Lib.hid hA
  have HB := Lib.hid hB
  clear hv hP hR hQ hQa hQl hQp hQs P1 P2 Q1 Q2 hGx hA hB hrl t1 t2 t3 t4 t5 t6 t7 t8 u1 u2 u3 u4 u5 u6 u7 u8 oP oQ fP fQ
  go_enter Try.func4, Try.ntmps4
  go_upto_region 1 with fail
  generalize ((w.alloc (Obj.cells #[.int .i64 x0, .int .i64 x1, .int .i64 x2, .int .i64 x3] 22)).alloc (Obj.cells #[.int .i64 y0, .int .i64 y1, .int .i64 y2, .int .i64 y3] 22)) = w0 at *
  obtain ⟨b, hb⟩ : ∃ b, w.heap.size = b := ⟨_, rfl⟩
  have HWB := Lib.hid hb
  rw [hb] at HA HB ⊢
  clear hb
  go_cut [7, 8] (fun v7 v8 wz => ∃ pb qb : Nat, v7 = .pointer (some ⟨pb, 0, none⟩) ∧ v8 = .pointer (some ⟨qb, 0, none⟩) ∧ Holds wz pb #[.int .i64 P.a, .int .i64 (P.l : Int), .int .i64 P.s, .int .i64 P.psi] 25 ∧ Holds wz qb #[.int .i64 Q.a, .int .i64 (rl : Int), .int .i64 Q.s, .int .i64 Q.psi] 25 ∧ qb ≠ pb ∧ b ≤ pb ∧ b ≤ qb ∧ Gr [] w wz)
  case first =>
    have hb0 : b + 1 < w0.heap.size := HB.out.lt
    have s0 := hc8 HA.out HB.out
    go_region_held3 (fun w' : World => b + 1 < w'.heap.size ∧ w'.cell? ⟨b, 0, none⟩ = some (.int .i64 x0) ∧ w'.cell? ⟨b, 1, none⟩ = some (.int .i64 x1) ∧ w'.cell? ⟨b, 2, none⟩ = some (.int .i64 x2) ∧ w'.cell? ⟨b, 3, none⟩ = some (.int .i64 x3) ∧ w'.cell? ⟨b + 1, 0, none⟩ = some (.int .i64 y0) ∧ w'.cell? ⟨b + 1, 1, none⟩ = some (.int .i64 y1) ∧ w'.cell? ⟨b + 1, 2, none⟩ = some (.int .i64 y2) ∧ w'.cell? ⟨b + 1, 3, none⟩ = some (.int .i64 y3)) (with_reducible (first | assumption | exact tAl (by assumption) _ | (repeat (first | assumption | refine tAl ?_ _ | refine tSt ?_ (by simp only; omega) _ | refine tDr ?_)))) ((first
      | (go_at_call 5; (with_reducible refine Calls.mono (HSy.out _) ?_); rintro r w6 ⟨rfl, g6⟩; (have G6 : Gr [] w5 w6 := (by refine Gr.next0 ?_ g6; (repeat (with_reducible first | exact Gr.refl _ _ | refine Gr.alloc ?_ _ | refine Gr.drew ?_)))); have GK6 := HC5.out.next0 G6; (first | (with_reducible have zz6 := And.intro (zz.1.gr0 G6) (zz.2.gr0 G6)) | (with_reducible have zz6 := zz.gr0 G6) | have zz6 := True.intro); (first | (with_reducible have yy := al2 g6) | (with_reducible have yy := al2d g6) | (with_reducible have yy := al1 g6) | (with_reducible have yy := al1d g6) | have yy := True.intro); (first | (with_reducible obtain ⟨za, zb⟩ := zz6; have ka := cf4 za; have kb := cf4 zb; have kc := fun (o : Obj) => cf4 (za.alloc o); have kd := fun (o : Obj) => cf4 (zb.alloc o); have lta := za.lt; have ltb := zb.lt) | (with_reducible have ka := cf4 zz6; have kc := fun (o : Obj) => cf4 (zz6.alloc o); have ltz6 := zz6.lt; have ltz := zz.lt) | skip); (first | (with_reducible obtain ⟨ya, yb⟩ := yy; have la := cf4 ya; have lb := cf4 yb; have lc := fun (o : Obj) => cf4 (ya.alloc o); have ld := fun (o : Obj) => cf4 (yb.alloc o); have ltya := ya.lt; have ltyb := yb.lt) | (with_reducible have la := cf4 yy; have lc := fun (o : Obj) => cf4 (yy.alloc o); have lty := yy.lt) | skip); have s6 := tG s5 G6; have sz6 := GK6.size; have sz5 := G6.size; clear g6)
      | (go_at_call 5; (with_reducible refine Calls.mono (HSx.out _) ?_); rintro r w5 ⟨rfl, g5⟩; (have G5 : Gr [] w0 w5 := (by refine Gr.next0 ?_ g5; (repeat (with_reducible first | exact Gr.refl _ _ | refine Gr.alloc ?_ _ | refine Gr.drew ?_)))); have HC5 := Lib.hid G5; (first | (with_reducible have zz := al2 g5) | (with_reducible have zz := al2d g5) | (with_reducible have zz := al1 g5) | (with_reducible have zz := al1d g5) | have zz := True.intro); have s5 := tG s0 G5; have sz0 := G5.size; clear g5)))
    all_goals
      go_wp2_with fail
      go_meet
      refine ⟨_, _, rfl, rfl, ?_, ?_, ?_, ?_, ?_, ?_⟩
      all_goals have hwb := HWB.out
      all_goals have hgk := HG.out.trans GK6
      all_goals repeat (first
        | (with_reducible assumption)
        | ((with_reducible show (_ : Nat) ≠ _); (try simp only [World.size_setCell, World.size_alloc, World.size_drew]); omega)
        | ((with_reducible show (_ : Nat) ≤ _); (try simp only [World.size_setCell, World.size_alloc, World.size_drew]); omega)
        | (with_reducible refine Holds.drew ?_)
        | (with_reducible refine newB ?_; (first | rfl | (simp only [World.size_setCell, World.size_alloc, World.size_drew]; done)))
        | (with_reducible refine holds4 (a0 := .int .i64 0) (a1 := .int .i64 0) (a2 := .int .i64 0) (a3 := .int .i64 0) ?_)
        | (with_reducible refine alB ?_)
        | (with_reducible refine farB ?_ ?_; (simp only [World.size_setCell, World.size_alloc, World.size_drew]; omega))
        | (with_reducible refine Gr.alloc ?_ _)
        | (with_reducible refine Gr.drew ?_)
        | (with_reducible refine grS ?_ ?_; (simp only [World.size_setCell, World.size_alloc, World.size_drew]; omega)))
      all_goals fail "LEFT"
  case rest =>
    obtain ⟨pb, qb, rfl, rfl, hp, hq, hne, hbp, hbq, hg⟩ := hcut
    have hset : Holds (wc.setCell ⟨qb, 1, none⟩ (.int .i64 (P.l : Int))) qb #[.int .i64 Q.a, .int .i64 (P.l : Int), .int .i64 Q.s, .int .i64 Q.psi] 25 := by simpa using hq.set 1 (.int .i64 (P.l : Int))
    have c1 := hp.cell 1
    have d1 := hq.cell 1
    have fz := hq.frozen 1
    have h1 := And.intro (hp.far (a := ⟨qb, 1, none⟩) (Ne.symm hne) (.int .i64 (P.l : Int))) (And.intro hset (hg.setCell (p := ⟨qb, 1, none⟩) (.inr (by rw [HWB.out]; exact hbq)) (.int .i64 (P.l : Int))))
    have HST := Lib.hid (And.intro hne (And.intro hbp hbq))
    clear hset hp hq hne hbp hbq hg HSx HSy HA HB HG
    go_upto_region 3 with fail
    have H1 := Lib.hid h1
    clear h1 c1 d1 fz
    generalize (wc.setCell ⟨qb, 1, none⟩ (.int .i64 (P.l : Int))) = w1 at *
    go_upto_region 4 with fail
    have hr := Holds.new w1 #[.pointer none, .pointer none] 47
    have ga := (Gr.refl [] w1).alloc (Obj.cells #[.pointer none, .pointer none] 47)
    have H2 := Lib.hid (And.intro hr (And.intro (H1.out.1.gr0 ga) (And.intro (H1.out.2.1.gr0 ga) (And.intro (H1.out.2.2.trans ga) (And.intro H1.out.1.lt H1.out.2.1.lt)))))
    clear hr ga H1
    generalize (w1.alloc (Obj.cells #[.pointer none, .pointer none] 47)) = w2 at *
    obtain ⟨rb, hrb⟩ : ∃ rb, w1.heap.size = rb := ⟨_, rfl⟩
    rw [hrb] at H2 ⊢
    clear hrb
    have p0 := H2.out.2.1.cell 0
    have p1 := H2.out.2.1.cell 1
    have p2 := H2.out.2.1.cell 2
    have p3 := H2.out.2.1.cell 3
    have q0 := H2.out.2.2.1.cell 0
    have q1 := H2.out.2.2.1.cell 1
    have q2 := H2.out.2.2.1.cell 2
    have q3 := H2.out.2.2.1.cell 3
    go_upto_region 5 with fail
    have hs := Holds.new w2 #[.int .i64 P.a, .int .i64 (P.l : Int), .int .i64 P.s, .int .i64 P.psi, .int .i64 Q.a, .int .i64 (P.l : Int), .int .i64 Q.s, .int .i64 Q.psi] 25
    have ga := (Gr.refl [] w2).alloc (Obj.cells #[.int .i64 P.a, .int .i64 (P.l : Int), .int .i64 P.s, .int .i64 P.psi, .int .i64 Q.a, .int .i64 (P.l : Int), .int .i64 Q.s, .int .i64 Q.psi] 25)
    have H3 := Lib.hid (show Al0 w pb rb w2.heap.size P Q (.pointer none) (.pointer none) _ from ⟨H2.out.2.2.2.1.trans ga, H2.out.2.1.gr0 ga, hs, H2.out.1.gr0 ga, by have := HWB.out; have := HST.out.2.1; omega, H2.out.2.2.2.2.1, H2.out.1.lt⟩)
    clear hs ga p0 p1 p2 p3 q0 q1 q2 q3 H2 HST
    generalize (w2.alloc (Obj.cells #[.int .i64 P.a, .int .i64 (P.l : Int), .int .i64 P.s, .int .i64 P.psi, .int .i64 Q.a, .int .i64 (P.l : Int), .int .i64 Q.s, .int .i64 Q.psi] 25)) = w3 at *
    obtain ⟨sb, hsb⟩ : ∃ sb, w2.heap.size = sb := ⟨_, rfl⟩
    rw [hsb] at H3 ⊢
    clear hsb
    go_loopw [36] (fun z wr => (z = .int .i64 0 ∧ Al0 w pb rb sb P Q (.pointer none) (.pointer none) wr) ∨ (z = .int .i64 1 ∧ ∃ (k1 : Nat) (q1 : BkA) (a1 : DevA), Al0 w pb rb sb P Q (.pointer (some ⟨k1, 0, none⟩)) (.pointer none) wr ∧ RR P k1 q1 a1 (fun _ _ => 0) 0 wr ∧ ∀ x ∈ k1 :: (q1.all ++ a1.all), sb < x) ∨ (z = .int .i64 2 ∧ ∃ (k1 : Nat) (q1 : BkA) (a1 : DevA) (k2 : Nat) (q2 : BkA) (a2 : DevA), Al2 w pb rb sb P Q k1 q1 a1 k2 q2 a2 (fun _ _ => 0) (fun _ _ => 0) 0 0 wr)) (fun z _ => 2 - (intOf z).toNat)
    case atStart => exact .inl ⟨rfl, H3.out⟩
    case round =>
      clear H3
      rcases hrel with ⟨rfl, ha⟩ | ⟨rfl, k1, q1, a1, ha, hr, hl⟩ | ⟨rfl, k1, q1, a1, k2, q2, a2, ha⟩
      · skip
        have s0 := ha.sl.cell 0
        have s1 := ha.sl.cell 1
        have s2 := ha.sl.cell 2
        have s3 := ha.sl.cell 3
        have hl0 := ha.sl.lt
        have HA := Lib.hid ha
        clear ha
        go_upto_region 7 with fail
        have ht := Holds.new wr #[.int .i64 P.a, .int .i64 (P.l : Int), .int .i64 P.s, .int .i64 P.psi] 25
        have ga := (Gr.refl [] wr).alloc (Obj.cells #[.int .i64 P.a, .int .i64 (P.l : Int), .int .i64 P.s, .int .i64 P.psi] 25)
        have HB := Lib.hid (And.intro ht (HA.out.next0 ga))
        have HTB := Lib.hid hl0
        clear ht ga s0 s1 s2 s3 hl0 HA
        generalize (wr.alloc (Obj.cells #[.int .i64 P.a, .int .i64 (P.l : Int), .int .i64 P.s, .int .i64 P.psi] 25)) = w4 at *
        obtain ⟨tb, htb⟩ : ∃ tb, wr.heap.size = tb := ⟨_, rfl⟩
        rw [htb] at HB HTB ⊢
        clear htb
        go_wp2_with fail
        refine (pmnew_yes 30 _ (by omega) (by omega)).mono ?_
        rintro e w5 ⟨a, rfl, d5, hlo, g5⟩
        have HLO := Lib.hid (show ∀ x ∈ a.all, tb < x from fun x hx => by have := hlo x hx; have := HB.out.1.lt; omega)
        have HL1 := Lib.hid hlo
        have H5 := Lib.hid (And.intro d5 (And.intro (HB.out.1.gr0 g5) (HB.out.2.next0 g5)))
        have HS45 := Lib.hid g5.size
        have HT4 := Lib.hid HB.out.1.lt
        have c0 := H5.out.2.1.cell 0
        have c1 := H5.out.2.1.cell 1
        have c2 := H5.out.2.1.cell 2
        have c3 := H5.out.2.1.cell 3
        clear d5 g5 hlo
        go_wp2_with fail
        refine (HP1.out _ a H5.out.1).mono ?_
        rintro e w6 ⟨rfl, d6, g6⟩
        have H6 := Lib.hid (And.intro d6 (And.intro (H5.out.2.1.gr g6 fun e => by have := HLO.out _ e; omega) (H5.out.2.2.next g6 fun x hx => Nat.lt_trans HTB.out (HLO.out x hx))))
        have HS46 := Lib.hid (Nat.le_trans HS45.out g6.size)
        clear d6 g6 c0 c1 c2 c3 H5 HB
        have c0 := H6.out.2.1.cell 0
        have c1 := H6.out.2.1.cell 1
        have c2 := H6.out.2.1.cell 2
        have c3 := H6.out.2.1.cell 3
        go_wp2_with fail
        refine (HP2.out _ a H6.out.1).mono ?_
        rintro e w7 ⟨kb, q, rfl, r7, hnew, g7⟩
        have HKN := Lib.hid (show ∀ x ∈ kb :: (q.all ++ a.all), w4.heap.size ≤ x ∧ sb < x from fun x hx => by
          have h4 : w4.heap.size ≤ x := by
            rcases List.mem_cons.1 hx with rfl | hx
            · exact Nat.le_trans HS46.out (hnew _ (by simp))
            · rcases List.mem_append.1 hx with hx | hx
              · exact Nat.le_trans HS46.out (hnew _ (by simp [hx]))
              · exact HL1.out x hx
          exact ⟨h4, Nat.lt_of_lt_of_le (Nat.lt_trans HTB.out HT4.out) h4⟩)
        have H7 := Lib.hid (And.intro r7 (H6.out.2.2.next0 g7))
        have r0 := H7.out.2.rg.cell 0
        have fz := H7.out.2.rg.frozen 0
        clear r7 hnew g7 c0 c1 c2 c3 H6
        go_upto_region 12 with fail
        have H8 := Lib.hid (And.intro (H7.out.2.set0 (.pointer (some ⟨kb, 0, none⟩))) (H7.out.1.setB (i := 0) (fun x hx => (HKN.out x hx).2) H7.out.2.lt.2.2 (.pointer (some ⟨kb, 0, none⟩))))
        clear H7 r0 fz
        generalize w7.setCell ⟨rb, 0, none⟩ (.pointer (some ⟨kb, 0, none⟩)) = w8 at *
        have r0 := H8.out.1.rg.cell 0
        go_wp2_with fail
        go_roundw
        case rel => exact .inr (.inl ⟨rfl, kb, q, a, H8.out.1, H8.out.2, fun x hx => (HKN.out x hx).2⟩)
        case measure => simp [intOf]
      · skip
        have s0 := ha.sl.cell 4
        have s1 := ha.sl.cell 5
        have s2 := ha.sl.cell 6
        have s3 := ha.sl.cell 7
        have hl0 := ha.sl.lt
        have HA := Lib.hid (And.intro ha (And.intro hr hl))
        clear ha hr hl
        go_upto_region 7 with fail
        have ht := Holds.new wr #[.int .i64 Q.a, .int .i64 (P.l : Int), .int .i64 Q.s, .int .i64 Q.psi] 25
        have ga := (Gr.refl [] wr).alloc (Obj.cells #[.int .i64 Q.a, .int .i64 (P.l : Int), .int .i64 Q.s, .int .i64 Q.psi] 25)
        have HB := Lib.hid (And.intro ht (And.intro (HA.out.1.next0 ga) (And.intro (HA.out.2.1.gr0 ga) HA.out.2.2)))
        have HTB := Lib.hid hl0
        clear ht ga s0 s1 s2 s3 hl0 HA
        generalize (wr.alloc (Obj.cells #[.int .i64 Q.a, .int .i64 (P.l : Int), .int .i64 Q.s, .int .i64 Q.psi] 25)) = w4 at *
        obtain ⟨tb, htb⟩ : ∃ tb, wr.heap.size = tb := ⟨_, rfl⟩
        rw [htb] at HB HTB ⊢
        clear htb
        go_wp2_with fail
        refine (pmnew_yes 30 _ (by omega) (by omega)).mono ?_
        rintro e w5 ⟨a, rfl, d5, hlo, g5⟩
        have HLO := Lib.hid (show ∀ x ∈ a.all, tb < x from fun x hx => by have := hlo x hx; have := HB.out.1.lt; omega)
        have HL1 := Lib.hid hlo
        have HL4 := Lib.hid (show ∀ x ∈ k1 :: (q1.all ++ a1.all), x < w4.heap.size from HB.out.2.2.1.lt)
        have H5 := Lib.hid (And.intro d5 (And.intro (HB.out.1.gr0 g5) (And.intro (HB.out.2.1.next0 g5) (And.intro (HB.out.2.2.1.gr0 g5) HB.out.2.2.2))))
        have HS45 := Lib.hid g5.size
        have HT4 := Lib.hid HB.out.1.lt
        have c0 := H5.out.2.1.cell 0
        have c1 := H5.out.2.1.cell 1
        have c2 := H5.out.2.1.cell 2
        have c3 := H5.out.2.1.cell 3
        clear d5 g5 hlo
        go_wp2_with fail
        refine (HQ1.out _ a H5.out.1).mono ?_
        rintro e w6 ⟨rfl, d6, g6⟩
        have H6 := Lib.hid (And.intro d6 (And.intro (H5.out.2.1.gr g6 fun e => by have := HLO.out _ e; omega) (And.intro (H5.out.2.2.1.next g6 fun x hx => Nat.lt_trans HTB.out (HLO.out x hx)) (And.intro (H5.out.2.2.2.1.gr g6 fun x hx e => by have := HL1.out x e; have := HL4.out x hx; omega) H5.out.2.2.2.2))))
        have HS46 := Lib.hid (Nat.le_trans HS45.out g6.size)
        clear d6 g6 c0 c1 c2 c3 H5 HB
        have c0 := H6.out.2.1.cell 0
        have c1 := H6.out.2.1.cell 1
        have c2 := H6.out.2.1.cell 2
        have c3 := H6.out.2.1.cell 3
        go_wp2_with fail
        refine (HQ2.out _ a H6.out.1).mono ?_
        rintro e w7 ⟨kb, q, rfl, r7, hnew, g7⟩
        have HKN := Lib.hid (show ∀ x ∈ kb :: (q.all ++ a.all), w4.heap.size ≤ x ∧ sb < x from fun x hx => by
          have h4 : w4.heap.size ≤ x := by
            rcases List.mem_cons.1 hx with rfl | hx
            · exact Nat.le_trans HS46.out (hnew _ (by simp))
            · rcases List.mem_append.1 hx with hx | hx
              · exact Nat.le_trans HS46.out (hnew _ (by simp [hx]))
              · exact HL1.out x hx
          exact ⟨h4, Nat.lt_of_lt_of_le (Nat.lt_trans HTB.out HT4.out) h4⟩)
        have H7 := Lib.hid (And.intro r7 (And.intro (H6.out.2.2.1.next0 g7) (And.intro (H6.out.2.2.2.1.gr0 g7) H6.out.2.2.2.2)))
        have r0 := H7.out.2.1.rg.cell 1
        have fz := H7.out.2.1.rg.frozen 1
        clear r7 hnew g7 c0 c1 c2 c3 H6
        go_upto_region 12 with fail
        have H8 := Lib.hid (show Al2 w pb rb sb P Q k1 q1 a1 kb q a _ _ 0 0 _ from ⟨H7.out.2.1.set1 (.pointer (some ⟨kb, 0, none⟩)), H7.out.2.2.1.setB (i := 1) H7.out.2.2.2 H7.out.2.1.lt.2.2 (.pointer (some ⟨kb, 0, none⟩)), H7.out.1.setB (i := 1) (fun x hx => (HKN.out x hx).2) H7.out.2.1.lt.2.2 (.pointer (some ⟨kb, 0, none⟩)), H7.out.2.2.2, fun x hx => ⟨(HKN.out x hx).2, fun e => by have := HL4.out x e; have := (HKN.out x hx).1; omega⟩⟩)
        clear H7 r0 fz
        generalize w7.setCell ⟨rb, 1, none⟩ (.pointer (some ⟨kb, 0, none⟩)) = w8 at *
        have r0 := H8.out.b.rg.cell 1
        go_wp2_with fail
        go_roundw
        case rel => exact .inr (.inr ⟨rfl, k1, q1, a1, kb, q, a, H8.out⟩)
        case measure => simp [intOf]
      · skip
        have HA := Lib.hid ha
        clear ha
        go_upto_region 15 with fail
        have HFx := Lib.hid (fun (W : World) (k : Nat) (h : k < P.l) (x : Al2 w pb rb sb P Q k1 q1 a1 k2 q2 a2 (fun _ _ => 0) (fun _ _ => 0) 0 0 W) => x)
        clear HFx
        go_cut [70, 71, 72] (fun sv nv iv wz => wz = wr ∧ iv = .int .i64 0 ∧ ∃ (M cap : Nat) (ao : Option Addr), sv = .slice ao M cap ∧ nv = .int .i64 (M : Int) ∧ M ≤ 40 ∧ ∀ k, k < M → ∃ (vb off : Nat) (x : ActL), ao = some ⟨vb, off, none⟩ ∧ vb < w.heap.size ∧ ActLIs w x ∧ ActLAt w vb (off + k * 6) x)
        case first =>
          rcases HV.out with ⟨ao, cap, rfl, hn, hm⟩ | ⟨vb, off, N, cap, xs, rfl, h1, h2, h3, h4, h5⟩
          · have hmn := minIs7 Try.prog 0 0 40 40 rfl rfl
            have HNN := Lib.hid hn
            unfold maxLen at hm
            clear hn HV
            cases ao
            case none =>
              obtain rfl := HNN.out rfl
              go_wp2_with fail
              go_meet
              exact ⟨rfl, rfl, 0, 0, none, rfl, rfl, by omega, fun k hk => by omega⟩
            case some ad =>
              go_wp2_with fail
              go_meet
              exact ⟨rfl, rfl, 0, _, _, rfl, rfl, by omega, fun k hk => by omega⟩
          · obtain ⟨M, hM⟩ : ∃ M, M = min N 40 := ⟨_, rfl⟩
            have hmn := minIs7 Try.prog N M 40 40 rfl hM
            have hM1 : M ≤ N := by omega
            have HM12 := Lib.hid (show M ≤ 40 by omega)
            have HCl := Lib.hid h5
            have HVB := Lib.hid h4
            unfold maxLen at h3
            clear hM h4 h5 HV
            have HML1 := Lib.hid hM1
            go_wp2_with fail
            go_meet
            exact ⟨rfl, rfl, M, _, _, rfl, rfl, HM12.out, fun k hk => ⟨vb, off, xs k, rfl, HVB.out, HCl.out k (by have := HML1.out; omega)⟩⟩
        case rest =>
          obtain ⟨rfl, rfl, M, cap, ao, rfl, rfl, hM40, hcl⟩ := hcut
          have HCl := Lib.hid hcl
          have HM40 := Lib.hid hM40
          clear hcl HV hM40
          go_wp2_with fail
          go_loopw [72] (fun z wr => ∃ (n : Nat) (F : Nat → Nat → Nat), n ≤ M ∧ z = .int .i64 (n : Int) ∧ Al2 w pb rb sb P Q k1 q1 a1 k2 q2 a2 F F (2 * n) (2 * n) wr) (fun z _ => M - (intOf z).toNat)
          case atStart => exact ⟨0, _, by omega, rfl, HA.out⟩
          case round =>
            clear HA
            obtain ⟨n, F, hn, rfl, ha⟩ := hrel
            have HA := Lib.hid ha
            clear ha
            by_cases hnM : n < M
            · skip
              obtain ⟨vb, off, x, rfl, hvb, hxi, e0, e1, e2, e3, e4, e5⟩ := HCl.out n hnM
              have e0 := (HA.out.b.gr.cell0 hvb).trans e0
              have e1 := (HA.out.b.gr.cell0 hvb).trans e1
              have e2 := (HA.out.b.gr.cell0 hvb).trans e2
              have e3 := (HA.out.b.gr.cell0 hvb).trans e3
              have e4 := (HA.out.b.gr.cell0 hvb).trans e4
              have e5 := (HA.out.b.gr.cell0 hvb).trans e5
              obtain ⟨xd, xz, xk, xv, xs, xao, xkl, xkc, xkp⟩ := x
              dsimp only at e0 e1 e2 e3 e4 e5
              have hxsz : xs.size ≤ 9223372036854775807 := by have := hxi.2.2.2.2.1; unfold maxLen at this; dsimp only at this; omega
              have HXV := Lib.hid (show xv < 18446744073709551616 from hxi.2.2.2.1)
              have ik : (n : Int) < (M : Int) := by omega
              have HNM := Lib.hid (show n + 1 ≤ M by omega)
              have hk0 : (0 : Int) ≤ (n : Int) := by omega
              obtain ⟨m8, hm8⟩ : ∃ m, m = min xs.size 64 := ⟨_, rfl⟩
              have hmn := minIs7 Try.prog xs.size m8 64 64 rfl hm8
              have hm8a : m8 ≤ xs.size := by omega
              have HM8 := Lib.hid (show m8 ≤ 64 by omega)
              have hmx := max0 Try.prog
              have hd0 := mx_nonneg xd
              have HN40 := Lib.hid (show 2 * n + 2 ≤ 80 by have := HM40.out; omega)
              clear hxi hvb hm8
              go_upto_region 18 with fail
              have ht := Holds.new wr #[.int .i64 xd, .int .i64 xz, .int .i64 xk, .int .u64 (xv : Int), .string xs, .slice xao xkl xkc] 52
              have ga := (Gr.refl [] wr).alloc (Obj.cells #[.int .i64 xd, .int .i64 xz, .int .i64 xk, .int .u64 (xv : Int), .string xs, .slice xao xkl xkc] 52)
              have HC := Lib.hid (HA.out.next0 ga)
              have HT := Lib.hid ht
              have HTN := Lib.hid (show wr.heap.size ∉ k1 :: (q1.all ++ a1.all) ∧ wr.heap.size ∉ k2 :: (q2.all ++ a2.all) from ⟨fun e => by have := HA.out.A.lt _ e; omega, fun e => by have := HA.out.B.lt _ e; omega⟩)
              clear ht ga e0 e1 e2 e3 e4 e5 HA
              generalize (wr.alloc (Obj.cells #[.int .i64 xd, .int .i64 xz, .int .i64 xk, .int .u64 (xv : Int), .string xs, .slice xao xkl xkc] 52)) = w4 at *
              obtain ⟨tb, htb⟩ : ∃ tb, wr.heap.size = tb := ⟨_, rfl⟩
              rw [htb] at HT HTN ⊢
              clear htb
              have c4 := HT.out.cell 4
              have HFl := Lib.hid (fun W => full07 (xs.extract 0 m8) W (by rw [ByteArray.size_extract]; have := HM8.out; omega))
              obtain ⟨S, hS⟩ : ∃ S, S = fullS (xs.extract 0 m8) := ⟨_, rfl⟩
              rw [← hS] at HFl
              have HS64 := Lib.hid (show S.size = 64 by rw [hS]; exact fullS_size _)
              clear hS
              go_wp2_with fail
              refine (HFl.out _).mono ?_
              rintro e w5 ⟨rfl, g5⟩
              have HC5 := Lib.hid (HC.out.next0 g5)
              have HT5 := Lib.hid (HT.out.gr0 g5)
              clear g5 c4 HC HT HFl hmn hm8a hxsz
              go_upto_region 19 with fail
              obtain ⟨zz, hzz⟩ : ∃ zz, errP P.l xz = zz := ⟨_, rfl⟩
              have HPA := Lib.hid (fun (W : World) (h : RR P k1 q1 a1 F (2 * n) W) => h.put (by have := HN40.out; omega) xz S HS64.out)
              have HPB := Lib.hid (fun (W : World) (h : RR Q k2 q2 a2 F (2 * n) W) => h.put (by have := HN40.out; omega) xz S HS64.out)
              rw [hzz] at HPA
              rw [HQL.out, hzz] at HPB
              obtain ⟨F2, hF2⟩ : ∃ F2, putF F xz S = F2 := ⟨_, rfl⟩
              rw [hF2] at HPA HPB
              clear hzz hF2
              have s0 := ak3 HC5.out.b HT5.out
              go_region_held3 (fun w' : World => w'.cell? ⟨rb, 0, none⟩ = some (.pointer (some ⟨k1, 0, none⟩)) ∧ w'.cell? ⟨rb, 1, none⟩ = some (.pointer (some ⟨k2, 0, none⟩)) ∧ w'.cell? ⟨tb, 1, none⟩ = some (.int .i64 xz)) (first | assumption | go_keep) ((first
                | (go_at_call 11; (with_reducible refine Calls.mono (HPB.out _ H6.out.1.B) ?_); rintro e w7 ⟨rfl, r7, g7⟩; have H7 := Lib.hid (And.intro (H6.out.1.put2 g7 r7) (H6.out.2.gr g7 HTN.out.2)); have s7 := ak3 H7.out.1.b H7.out.2; clear r7 g7)
                | (go_at_call 11; (with_reducible refine Calls.mono (HPA.out _ (HC5.out.next0 (Gr.refl [] w5).drew).A) ?_); rintro e w6 ⟨rfl, r6, g6⟩; have H6 := Lib.hid (And.intro ((HC5.out.next0 (Gr.refl [] w5).drew).put1 g6 r6) ((HT5.out.gr0 (Gr.refl [] w5).drew).gr g6 HTN.out.1)); have s6 := ak3 H6.out.1.b H6.out.2; clear r6 g6)))
              clear HPA HPB s0 s6 s7 H6 HC5 HT5
              have c0 := H7.out.2.cell 0
              by_cases hk : mx xd % 2 = 1
              · skip
                go_upto_region 21 with fail
                obtain ⟨zw, hzw⟩ : ∃ zw, errK P.l xz xk = zw := ⟨_, rfl⟩
                have HPA := Lib.hid (fun (W : World) (h : RR P k1 q1 a1 F2 (2 * n + 1) W) => h.word (by have := HN40.out; omega) xz xk xv HXV.out)
                have HPB := Lib.hid (fun (W : World) (h : RR Q k2 q2 a2 F2 (2 * n + 1) W) => h.word (by have := HN40.out; omega) xz xk xv HXV.out)
                rw [hzw] at HPA
                rw [HQL.out, hzw] at HPB
                obtain ⟨F3, hF3⟩ : ∃ F3, wwF F2 xz xk xv = F3 := ⟨_, rfl⟩
                rw [hF3] at HPA HPB
                clear hzw hF3 hk hmx hd0 c0
                have s0 := ak5 H7.out.1.b H7.out.2
                go_region_held3 (fun w' : World => w'.cell? ⟨rb, 0, none⟩ = some (.pointer (some ⟨k1, 0, none⟩)) ∧ w'.cell? ⟨rb, 1, none⟩ = some (.pointer (some ⟨k2, 0, none⟩)) ∧ w'.cell? ⟨tb, 1, none⟩ = some (.int .i64 xz) ∧ w'.cell? ⟨tb, 2, none⟩ = some (.int .i64 xk) ∧ w'.cell? ⟨tb, 3, none⟩ = some (.int .u64 (xv : Int))) (first | assumption | go_keep) ((first
                  | (go_at_call 14; (with_reducible refine Calls.mono (HPB.out _ H8.out.1.B) ?_); rintro e w9 ⟨rfl, r9, g9⟩; have H9 := Lib.hid (And.intro (H8.out.1.put2 g9 r9) (H8.out.2.gr g9 HTN.out.2)); have s9 := ak5 H9.out.1.b H9.out.2; clear r9 g9)
                  | (go_at_call 14; (with_reducible refine Calls.mono (HPA.out _ (H7.out.1.next0 (Gr.refl [] w7).drew).A) ?_); rintro e w8 ⟨rfl, r8, g8⟩; have H8 := Lib.hid (And.intro ((H7.out.1.next0 (Gr.refl [] w7).drew).put1 g8 r8) ((H7.out.2.gr0 (Gr.refl [] w7).drew).gr g8 HTN.out.1)); have s8 := ak5 H8.out.1.b H8.out.2; clear r8 g8)))
                clear HPA HPB s0 s8 s9 H8 H7
                have c0 := True.intro
                have hmx := True.intro
                have hd0 := True.intro
                have hk := True.intro
                clear c0 hmx hd0 hk
                have p1 := H9.out.1.b.pl.cell 1
                go_wp2_with fail
                go_loopw [124] (fun z wr => ∃ k : Nat, k ≤ P.l ∧ z = .int .i64 (k : Int) ∧ Al2 w pb rb sb P Q k1 q1 a1 k2 q2 a2 F3 F3 (2 * n + 2) (2 * n + 2) wr) (fun z _ => P.l - (intOf z).toNat)
                case atStart => exact ⟨0, by omega, rfl, H9.out.1⟩
                case round =>
                  clear H9 p1
                  obtain ⟨k, hkl, rfl, ha⟩ := hrel
                  have HA := Lib.hid ha
                  clear ha
                  by_cases hkp : k < P.l
                  · have il : (k : Int) < (P.l : Int) := by omega
                    have HKP := Lib.hid hkp
                    clear hkp
                    have hw : IntKind.i64.wrap ((k : Int) + 1) = (k : Int) + 1 := IntWalk.i64_in _ (by have := HL.out.1; have := HKP.out; omega)
                    have r0 := HA.out.b.rg.cell 0
                    go_wp2_with fail
                    refine (HA.out.A.read k HKP.out).mono ?_
                    rintro e w10 ⟨rfl, g10⟩
                    have HB := Lib.hid (HA.out.next0 g10)
                    clear r0 g10 HA
                    have r1 := HB.out.b.rg.cell 1
                    go_wp2_with fail
                    refine (HB.out.B.read k (by rw [HQL.out]; exact HKP.out)).mono ?_
                    rintro e w11 ⟨rfl, g11⟩
                    have HC := Lib.hid (HB.out.next0 g11)
                    clear r1 g11 HB
                    go_wp2_with fail
                    go_roundw
                    case rel => exact ⟨k + 1, HKP.out, by go_num, HC.out⟩
                    case measure => simp [intOf]; omega
                  · obtain rfl : k = P.l := by omega
                    have il : ¬ ((P.l : Int) < (P.l : Int)) := by omega
                    have hw : IntKind.i64.wrap ((n : Int) + 1) = (n : Int) + 1 := IntWalk.i64_in _ (by have := HN40.out; omega)
                    go_wp2_with fail
                    go_roundw
                    case rel => exact ⟨n + 1, F3, HNM.out, by go_num, by have h := HA.out; rw [show 2 * (n + 1) = 2 * n + 2 by omega]; exact h⟩
                    case measure => have := HNM.out; simp [intOf]; omega
              · skip
                have hkb : (mx xd % 2 == 1) = false := by simpa using hk
                clear hk
                have H9 := Lib.hid (And.intro (H7.out.1.more (k := 2 * n + 2) (by omega) (by omega)) H7.out.2)
                clear H7
                go_upto_region 22 with fail
                clear hkb
                have hk := True.intro
                clear c0 hmx hd0 hk
                have p1 := H9.out.1.b.pl.cell 1
                go_wp2_with fail
                go_loopw [124] (fun z wr => ∃ k : Nat, k ≤ P.l ∧ z = .int .i64 (k : Int) ∧ Al2 w pb rb sb P Q k1 q1 a1 k2 q2 a2 F2 F2 (2 * n + 2) (2 * n + 2) wr) (fun z _ => P.l - (intOf z).toNat)
                case atStart => exact ⟨0, by omega, rfl, H9.out.1⟩
                case round =>
                  clear H9 p1
                  obtain ⟨k, hkl, rfl, ha⟩ := hrel
                  have HA := Lib.hid ha
                  clear ha
                  by_cases hkp : k < P.l
                  · have il : (k : Int) < (P.l : Int) := by omega
                    have HKP := Lib.hid hkp
                    clear hkp
                    have hw : IntKind.i64.wrap ((k : Int) + 1) = (k : Int) + 1 := IntWalk.i64_in _ (by have := HL.out.1; have := HKP.out; omega)
                    have r0 := HA.out.b.rg.cell 0
                    go_wp2_with fail
                    refine (HA.out.A.read k HKP.out).mono ?_
                    rintro e w10 ⟨rfl, g10⟩
                    have HB := Lib.hid (HA.out.next0 g10)
                    clear r0 g10 HA
                    have r1 := HB.out.b.rg.cell 1
                    go_wp2_with fail
                    refine (HB.out.B.read k (by rw [HQL.out]; exact HKP.out)).mono ?_
                    rintro e w11 ⟨rfl, g11⟩
                    have HC := Lib.hid (HB.out.next0 g11)
                    clear r1 g11 HB
                    go_wp2_with fail
                    go_roundw
                    case rel => exact ⟨k + 1, HKP.out, by go_num, HC.out⟩
                    case measure => simp [intOf]; omega
                  · obtain rfl : k = P.l := by omega
                    have il : ¬ ((P.l : Int) < (P.l : Int)) := by omega
                    have hw : IntKind.i64.wrap ((n : Int) + 1) = (n : Int) + 1 := IntWalk.i64_in _ (by have := HN40.out; omega)
                    go_wp2_with fail
                    go_roundw
                    case rel => exact ⟨n + 1, F2, HNM.out, by go_num, by have h := HA.out; rw [show 2 * (n + 1) = 2 * n + 2 by omega]; exact h⟩
                    case measure => have := HNM.out; simp [intOf]; omega
            · obtain rfl : n = M := by omega
              have ik : ¬ ((n : Int) < (n : Int)) := by omega
              go_wp2_with fail
              refine (wakes07 _).mono ?_
              rintro e w6 ⟨rfl, g6⟩
              have HB := Lib.hid (HA.out.next0 g6)
              clear g6 HA
              go_wp2_with fail
              go_ret
              exact ⟨rfl, HB.out.b.gr⟩

theorem walk_RingAlike (v0 v1 : List Int) (v2 : Value) {w : World} (h0 : v0.length = 4) (w0 : ∀ x ∈ v0, (Lit.int .i64 x).wf = true) (h1 : v1.length = 4) (w1 : ∀ x ∈ v1, (Lit.int .i64 x).wf = true) (s : SlL w v2) :
    Calls Try.prog 4 #[.agg (v0.map (Value.int .i64)).toArray, .agg (v1.map (Value.int .i64)).toArray, v2] w fun e w' => e = .returned (.bool true) ∧ Below w.heap.size w w' := by
  obtain ⟨x0, x1, x2, x3, rfl⟩ : ∃ x y z t, v0 = [x, y, z, t] := by
    match v0, h0 with
    | [x, y, z, t], _ => exact ⟨x, y, z, t, rfl⟩
  obtain ⟨y0, y1, y2, y3, rfl⟩ : ∃ x y z t, v1 = [x, y, z, t] := by
    match v1, h1 with
    | [x, y, z, t], _ => exact ⟨x, y, z, t, rfl⟩
  exact (alike_law x0 x1 x2 x3 y0 y1 y2 y3 v2 s).mono fun _ _ q => ⟨q.1, q.2.below0⟩

end Go.Proofs.Ytdgcninmpcmdcaa
