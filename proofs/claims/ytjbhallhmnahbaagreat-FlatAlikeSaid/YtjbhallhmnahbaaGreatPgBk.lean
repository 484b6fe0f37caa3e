/-
  FlatAlike.
-/
import Derived.Test.YtjbhallhmnahbaaGreatPgBi
import Derived.Test.YtjbhallhmnahbaaGreatPgBj
import Derived.Deep.CutBlock
import Derived.Deep.RegionHeld3

namespace Go.Proofs.YtjbhallhmnahbaaGreat
open Go.RowKit
set_option linter.unusedVariables false

theorem minIs9 (P : Program) (L m k : Nat) (kI : Int) (hk : kI = k) (h : m = min L k) (ts : Array TypeId) (t : TypeId) (w : World) : (Builtin.min_ ts t #[.int .i64 (L : Int), .int .i64 kI]).run P w = .ok (.int .i64 (m : Int)) w := by
  subst hk
  rw [run_min_int2]
  have : (if ((k : Nat) : Int) < (L : Int) then ((k : Nat) : Int) else (L : Int)) = (m : Int) := by split <;> omega
  rw [this]
theorem tG9 {W W' : World} {b : Nat} {x0 x1 x2 x3 x4 y0 y1 y2 y3 y4 : Value} (h : b + 1 < W.heap.size ∧ W.cell? ⟨b, 0, none⟩ = some x0 ∧ W.cell? ⟨b, 1, none⟩ = some x1 ∧ W.cell? ⟨b, 2, none⟩ = some x2 ∧ W.cell? ⟨b, 3, none⟩ = some x3 ∧ W.cell? ⟨b, 4, none⟩ = some x4 ∧ W.cell? ⟨b + 1, 0, none⟩ = some y0 ∧ W.cell? ⟨b + 1, 1, none⟩ = some y1 ∧ W.cell? ⟨b + 1, 2, none⟩ = some y2 ∧ W.cell? ⟨b + 1, 3, none⟩ = some y3 ∧ W.cell? ⟨b + 1, 4, none⟩ = some y4) (g : Gr [] W W') : b + 1 < W'.heap.size ∧ W'.cell? ⟨b, 0, none⟩ = some x0 ∧ W'.cell? ⟨b, 1, none⟩ = some x1 ∧ W'.cell? ⟨b, 2, none⟩ = some x2 ∧ W'.cell? ⟨b, 3, none⟩ = some x3 ∧ W'.cell? ⟨b, 4, none⟩ = some x4 ∧ W'.cell? ⟨b + 1, 0, none⟩ = some y0 ∧ W'.cell? ⟨b + 1, 1, none⟩ = some y1 ∧ W'.cell? ⟨b + 1, 2, none⟩ = some y2 ∧ W'.cell? ⟨b + 1, 3, none⟩ = some y3 ∧ W'.cell? ⟨b + 1, 4, none⟩ = some y4 := by
  obtain ⟨h0, h1, h2, h3, h4, h5, h6, h7, h8, h9, h10⟩ := h
  have hb : b < W.heap.size := by omega
  exact ⟨Nat.lt_of_lt_of_le h0 g.size, (g.cell0 hb).trans h1, (g.cell0 hb).trans h2, (g.cell0 hb).trans h3, (g.cell0 hb).trans h4, (g.cell0 hb).trans h5, (g.cell0 h0).trans h6, (g.cell0 h0).trans h7, (g.cell0 h0).trans h8, (g.cell0 h0).trans h9, (g.cell0 h0).trans h10⟩
theorem tAl9 {W : World} {b : Nat} {x0 x1 x2 x3 x4 y0 y1 y2 y3 y4 : Value} (h : b + 1 < W.heap.size ∧ W.cell? ⟨b, 0, none⟩ = some x0 ∧ W.cell? ⟨b, 1, none⟩ = some x1 ∧ W.cell? ⟨b, 2, none⟩ = some x2 ∧ W.cell? ⟨b, 3, none⟩ = some x3 ∧ W.cell? ⟨b, 4, none⟩ = some x4 ∧ W.cell? ⟨b + 1, 0, none⟩ = some y0 ∧ W.cell? ⟨b + 1, 1, none⟩ = some y1 ∧ W.cell? ⟨b + 1, 2, none⟩ = some y2 ∧ W.cell? ⟨b + 1, 3, none⟩ = some y3 ∧ W.cell? ⟨b + 1, 4, none⟩ = some y4) (o : Obj) : b + 1 < (W.alloc o).heap.size ∧ (W.alloc o).cell? ⟨b, 0, none⟩ = some x0 ∧ (W.alloc o).cell? ⟨b, 1, none⟩ = some x1 ∧ (W.alloc o).cell? ⟨b, 2, none⟩ = some x2 ∧ (W.alloc o).cell? ⟨b, 3, none⟩ = some x3 ∧ (W.alloc o).cell? ⟨b, 4, none⟩ = some x4 ∧ (W.alloc o).cell? ⟨b + 1, 0, none⟩ = some y0 ∧ (W.alloc o).cell? ⟨b + 1, 1, none⟩ = some y1 ∧ (W.alloc o).cell? ⟨b + 1, 2, none⟩ = some y2 ∧ (W.alloc o).cell? ⟨b + 1, 3, none⟩ = some y3 ∧ (W.alloc o).cell? ⟨b + 1, 4, none⟩ = some y4 := tG9 h ((Gr.refl [] W).alloc o)
theorem tDr9 {W : World} {b : Nat} {x0 x1 x2 x3 x4 y0 y1 y2 y3 y4 : Value} (h : b + 1 < W.heap.size ∧ W.cell? ⟨b, 0, none⟩ = some x0 ∧ W.cell? ⟨b, 1, none⟩ = some x1 ∧ W.cell? ⟨b, 2, none⟩ = some x2 ∧ W.cell? ⟨b, 3, none⟩ = some x3 ∧ W.cell? ⟨b, 4, none⟩ = some x4 ∧ W.cell? ⟨b + 1, 0, none⟩ = some y0 ∧ W.cell? ⟨b + 1, 1, none⟩ = some y1 ∧ W.cell? ⟨b + 1, 2, none⟩ = some y2 ∧ W.cell? ⟨b + 1, 3, none⟩ = some y3 ∧ W.cell? ⟨b + 1, 4, none⟩ = some y4) : b + 1 < W.drew.heap.size ∧ W.drew.cell? ⟨b, 0, none⟩ = some x0 ∧ W.drew.cell? ⟨b, 1, none⟩ = some x1 ∧ W.drew.cell? ⟨b, 2, none⟩ = some x2 ∧ W.drew.cell? ⟨b, 3, none⟩ = some x3 ∧ W.drew.cell? ⟨b, 4, none⟩ = some x4 ∧ W.drew.cell? ⟨b + 1, 0, none⟩ = some y0 ∧ W.drew.cell? ⟨b + 1, 1, none⟩ = some y1 ∧ W.drew.cell? ⟨b + 1, 2, none⟩ = some y2 ∧ W.drew.cell? ⟨b + 1, 3, none⟩ = some y3 ∧ W.drew.cell? ⟨b + 1, 4, none⟩ = some y4 := tG9 h (Gr.refl [] W).drew
theorem tSt9 {W : World} {b : Nat} {x0 x1 x2 x3 x4 y0 y1 y2 y3 y4 : Value} (h : b + 1 < W.heap.size ∧ W.cell? ⟨b, 0, none⟩ = some x0 ∧ W.cell? ⟨b, 1, none⟩ = some x1 ∧ W.cell? ⟨b, 2, none⟩ = some x2 ∧ W.cell? ⟨b, 3, none⟩ = some x3 ∧ W.cell? ⟨b, 4, none⟩ = some x4 ∧ W.cell? ⟨b + 1, 0, none⟩ = some y0 ∧ W.cell? ⟨b + 1, 1, none⟩ = some y1 ∧ W.cell? ⟨b + 1, 2, none⟩ = some y2 ∧ W.cell? ⟨b + 1, 3, none⟩ = some y3 ∧ W.cell? ⟨b + 1, 4, none⟩ = some y4) {p : Addr} (hp : b + 1 < p.block) (v : Value) : b + 1 < (W.setCell p v).heap.size ∧ (W.setCell p v).cell? ⟨b, 0, none⟩ = some x0 ∧ (W.setCell p v).cell? ⟨b, 1, none⟩ = some x1 ∧ (W.setCell p v).cell? ⟨b, 2, none⟩ = some x2 ∧ (W.setCell p v).cell? ⟨b, 3, none⟩ = some x3 ∧ (W.setCell p v).cell? ⟨b, 4, none⟩ = some x4 ∧ (W.setCell p v).cell? ⟨b + 1, 0, none⟩ = some y0 ∧ (W.setCell p v).cell? ⟨b + 1, 1, none⟩ = some y1 ∧ (W.setCell p v).cell? ⟨b + 1, 2, none⟩ = some y2 ∧ (W.setCell p v).cell? ⟨b + 1, 3, none⟩ = some y3 ∧ (W.setCell p v).cell? ⟨b + 1, 4, none⟩ = some y4 := by
  obtain ⟨h0, h1, h2, h3, h4, h5, h6, h7, h8, h9, h10⟩ := h
  have key : ∀ c i x, c ≤ b + 1 → W.cell? ⟨c, i, none⟩ = some x → (W.setCell p v).cell? ⟨c, i, none⟩ = some x := fun c i x hc e => (World.cell?_setCell_far W p ⟨c, i, none⟩ v (fun q => by simp only at q; omega)).trans e
  exact ⟨by rw [World.size_setCell]; exact h0, key _ _ _ (by omega) h1, key _ _ _ (by omega) h2, key _ _ _ (by omega) h3, key _ _ _ (by omega) h4, key _ _ _ (by omega) h5, key _ _ _ (by omega) h6, key _ _ _ (by omega) h7, key _ _ _ (by omega) h8, key _ _ _ (by omega) h9, key _ _ _ (by omega) h10⟩
theorem cf59 {W : World} {b : Nat} {x0 x1 x2 x3 x4 : Value} {T : TypeId} (h : Holds W b #[x0, x1, x2, x3, x4] T) : W.cell? ⟨b, 0, none⟩ = some x0 ∧ W.cell? ⟨b, 1, none⟩ = some x1 ∧ W.cell? ⟨b, 2, none⟩ = some x2 ∧ W.cell? ⟨b, 3, none⟩ = some x3 ∧ W.cell? ⟨b, 4, none⟩ = some x4 ∧ W.frozen? ⟨b, 0, none⟩ = false ∧ W.frozen? ⟨b, 1, none⟩ = false ∧ W.frozen? ⟨b, 2, none⟩ = false ∧ W.frozen? ⟨b, 3, none⟩ = false ∧ W.frozen? ⟨b, 4, none⟩ = false ∧ b < W.heap.size ∧ W.heap.size ≠ b ∧ b ≠ W.heap.size :=
  ⟨h.cell 0, h.cell 1, h.cell 2, h.cell 3, h.cell 4, h.frozen 0, h.frozen 1, h.frozen 2, h.frozen 3, h.frozen 4, h.lt, Nat.ne_of_gt h.lt, Nat.ne_of_lt h.lt⟩
theorem hc10 {W : World} {b : Nat} {x0 x1 x2 x3 x4 y0 y1 y2 y3 y4 : Value} {T T' : TypeId} (h : Holds W b #[x0, x1, x2, x3, x4] T) (h' : Holds W (b + 1) #[y0, y1, y2, y3, y4] T') : b + 1 < W.heap.size ∧ W.cell? ⟨b, 0, none⟩ = some x0 ∧ W.cell? ⟨b, 1, none⟩ = some x1 ∧ W.cell? ⟨b, 2, none⟩ = some x2 ∧ W.cell? ⟨b, 3, none⟩ = some x3 ∧ W.cell? ⟨b, 4, none⟩ = some x4 ∧ W.cell? ⟨b + 1, 0, none⟩ = some y0 ∧ W.cell? ⟨b + 1, 1, none⟩ = some y1 ∧ W.cell? ⟨b + 1, 2, none⟩ = some y2 ∧ W.cell? ⟨b + 1, 3, none⟩ = some y3 ∧ W.cell? ⟨b + 1, 4, none⟩ = some y4 :=
  ⟨h'.lt, h.cell 0, h.cell 1, h.cell 2, h.cell 3, h.cell 4, h'.cell 0, h'.cell 1, h'.cell 2, h'.cell 3, h'.cell 4⟩
theorem al19 {W w' : World} {cs : Array Value} {t : TypeId} (g : Gr [] (W.alloc (Obj.cells cs t)) w') : Holds w' W.heap.size cs t := (Holds.new W cs t).gr0 g
theorem al29 {W w' : World} {cs cs' : Array Value} {t t' : TypeId} (g : Gr [] ((W.alloc (Obj.cells cs t)).alloc (Obj.cells cs' t')) w') : Holds w' W.heap.size cs t ∧ Holds w' (W.heap.size + 1) cs' t' := by
  have h1 := ((Holds.new W cs t).alloc (Obj.cells cs' t')).gr0 g
  have h2 := (Holds.new (W.alloc (Obj.cells cs t)) cs' t').gr0 g
  rw [World.size_alloc] at h2
  exact ⟨h1, h2⟩
theorem al1d9 {W w' : World} {cs : Array Value} {t : TypeId} (g : Gr [] (W.alloc (Obj.cells cs t)).drew w') : Holds w' W.heap.size cs t := al19 ((Gr.refl [] _).drew.next0 g)
theorem al2d9 {W w' : World} {cs cs' : Array Value} {t t' : TypeId} (g : Gr [] ((W.alloc (Obj.cells cs t)).alloc (Obj.cells cs' t')).drew w') : Holds w' W.heap.size cs t ∧ Holds w' (W.heap.size + 1) cs' t' := al29 ((Gr.refl [] _).drew.next0 g)
theorem newB9 {W : World} {b : Nat} {cs : Array Value} {t : TypeId} (h : b = W.heap.size) : Holds (W.alloc (.cells cs t)) b cs t := by
  subst h
  exact Holds.new W cs t
theorem farB9 {W : World} {b : Nat} {cs : Array Value} {t : TypeId} {a : Addr} {u : Value} (hn : b ≠ a.block) (h : Holds W b cs t) : Holds (W.setCell a u) b cs t := h.far hn u
theorem alB9 {W : World} {b : Nat} {cs : Array Value} {t : TypeId} {o : Obj} (h : Holds W b cs t) : Holds (W.alloc o) b cs t := h.alloc o
theorem grS9 {w W : World} {p : Addr} {v : Value} (hp : w.heap.size ≤ p.block) (h : Gr [] w W) : Gr [] w (W.setCell p v) := h.setCell (.inr hp) v
theorem holds59 {W : World} {b : Nat} {a0 a1 a2 a3 a4 x0 x1 x2 x3 x4 : Value} {T : TypeId} (h : Holds W b #[a0, a1, a2, a3, a4] T) : Holds (((((W.setCell ⟨b, 0, none⟩ x0).setCell ⟨b, 1, none⟩ x1).setCell ⟨b, 2, none⟩ x2).setCell ⟨b, 3, none⟩ x3).setCell ⟨b, 4, none⟩ x4) b #[x0, x1, x2, x3, x4] T := by
  have := ((((h.set 0 x0).set 1 x1).set 2 x2).set 3 x3).set 4 x4
  simpa using this
theorem tame_ok {R L s psi : Int} {key : Nat} (h1 : 1 ≤ R ∧ R ≤ 3) (h2 : 1 ≤ L ∧ L ≤ 5) (h3 : 0 ≤ s ∧ s ≤ 4) (h4 : 1 ≤ psi ∧ psi ≤ 4) (hk : key < 18446744073709551616) : OkC ⟨R, L, s, psi, key⟩ ∧ 1 ≤ sizeC ⟨R, L, s, psi, key⟩ ∧ sizeC ⟨R, L, s, psi, key⟩ ≤ 37 := by
  have ok : okP ⟨R, L, s, psi, key⟩ := by unfold okP; simp only; omega
  obtain ⟨_, hs⟩ := regS_ok ok
  simp only at hs
  have hrs : 0 ≤ regS ⟨R, L, s, psi, key⟩ ∧ regS ⟨R, L, s, psi, key⟩ ≤ 12 := by rw [hs]; omega
  have hm : R * regS ⟨R, L, s, psi, key⟩ ≤ 3 * 12 := Int.mul_le_mul (by omega) hrs.2 hrs.1 (by omega)
  have hm0 : 0 ≤ R * regS ⟨R, L, s, psi, key⟩ := Int.mul_nonneg (by omega) hrs.1
  have hC : OkC ⟨R, L, s, psi, key⟩ := ⟨by simp only; omega, by simp only; omega, ok, hk, by simp only; omega⟩
  refine ⟨hC, ?_, ?_⟩
  · rw [hC.size]; simp only; omega
  · rw [hC.size]; simp only; omega

/-- The law's own cells: the two lists' pointers, the configs' list. -/
structure Af0 (w : World) (rb sb : Nat) (P Q : CfgZ) (v1 v2 : Value) (wr : World) : Prop where
  gr : Gr [] w wr
  sl : Holds wr sb #[.int .i64 P.r, .int .i64 P.l, .int .i64 P.s, .int .i64 P.psi, .int .u64 (P.key : Int), .int .i64 Q.r, .int .i64 Q.l, .int .i64 Q.s, .int .i64 Q.psi, .int .u64 (Q.key : Int)] 37
  rg : Holds wr rb #[v1, v2] 96
  lt : w.heap.size ≤ rb ∧ rb < sb
section
variable {w wr w2 : World} {rb sb : Nat} {P Q : CfgZ} {v1 v2 : Value}
theorem Af0.next (h : Af0 w rb sb P Q v1 v2 wr) {bs : List Nat} (g : Gr bs wr w2) (hb : ∀ x ∈ bs, sb < x) : Af0 w rb sb P Q v1 v2 w2 := by
  have hl := h.lt
  exact ⟨h.gr.nextN g fun x hx => .inr (by have := hb x hx; omega), h.sl.gr g fun hx => by have := hb _ hx; omega, h.rg.gr g fun hx => by have := hb _ hx; omega, hl⟩
theorem Af0.next0 (h : Af0 w rb sb P Q v1 v2 wr) (g : Gr [] wr w2) : Af0 w rb sb P Q v1 v2 w2 := h.next g (by simp)
theorem Af0.set0 (h : Af0 w rb sb P Q v1 v2 wr) (u : Value) : Af0 w rb sb P Q u v2 (wr.setCell ⟨rb, 0, none⟩ u) := by
  have hl := h.lt
  exact ⟨h.gr.setCell (.inr (by simp only; omega)) u, h.sl.far (by simp only; omega) u, by simpa using h.rg.set 0 u, hl⟩
theorem Af0.set1 (h : Af0 w rb sb P Q v1 v2 wr) (u : Value) : Af0 w rb sb P Q v1 u (wr.setCell ⟨rb, 1, none⟩ u) := by
  have hl := h.lt
  exact ⟨h.gr.setCell (.inr (by simp only; omega)) u, h.sl.far (by simp only; omega) u, by simpa using h.rg.set 1 u, hl⟩
theorem FQ.setB {A : FlA} {a : DevA} {F : Nat → Nat → Nat} {n i : Nat} (h : FQ P A a F n wr) (hl : ∀ x ∈ A.all (cR P) ++ a.all, sb < x) (hb : rb < sb) (u : Value) : FQ P A a F n (wr.setCell ⟨rb, i, none⟩ u) :=
  h.gr ((Gr.refl [rb] wr).setCell (.inl (by simp)) u) fun x hx e => by have := hl x hx; have := List.mem_singleton.1 e; omega
end
/-- The two lists, behind so many writes each. -/
structure Af2 (w : World) (rb sb : Nat) (P Q : CfgZ) (A1 : FlA) (a1 : DevA) (A2 : FlA) (a2 : DevA) (F G : Nat → Nat → Nat) (m n : Nat) (wr : World) : Prop where
  b : Af0 w rb sb P Q (.pointer (some ⟨A1.fb, 0, none⟩)) (.pointer (some ⟨A2.fb, 0, none⟩)) wr
  A : FQ P A1 a1 F m wr
  B : FQ Q A2 a2 G n wr
  l1 : ∀ x ∈ A1.all (cR P) ++ a1.all, sb < x
  l2 : ∀ x ∈ A2.all (cR Q) ++ a2.all, sb < x ∧ x ∉ A1.all (cR P) ++ a1.all
section
variable {w wr w2 : World} {rb sb : Nat} {P Q : CfgZ} {A1 : FlA} {a1 : DevA} {A2 : FlA} {a2 : DevA} {F G F2 : Nat → Nat → Nat} {m n m2 : Nat}
theorem Af2.next0 (h : Af2 w rb sb P Q A1 a1 A2 a2 F G m n wr) (g : Gr [] wr w2) : Af2 w rb sb P Q A1 a1 A2 a2 F G m n w2 := ⟨h.b.next0 g, h.A.gr0 g, h.B.gr0 g, h.l1, h.l2⟩
theorem Af2.put1 (h : Af2 w rb sb P Q A1 a1 A2 a2 F G m n wr) (g : Gr (A1.all (cR P) ++ a1.all) wr w2) (r : FQ P A1 a1 F2 m2 w2) : Af2 w rb sb P Q A1 a1 A2 a2 F2 G m2 n w2 :=
  ⟨h.b.next g h.l1, r, h.B.gr g fun x hx => (h.l2 x hx).2, h.l1, h.l2⟩
theorem Af2.put2 (h : Af2 w rb sb P Q A1 a1 A2 a2 F G m n wr) (g : Gr (A2.all (cR Q) ++ a2.all) wr w2) (r : FQ Q A2 a2 F2 m2 w2) : Af2 w rb sb P Q A1 a1 A2 a2 F F2 m m2 w2 :=
  ⟨h.b.next g fun x hx => (h.l2 x hx).1, h.A.gr g fun x hx e => (h.l2 x e).2 hx, r, h.l1, h.l2⟩
theorem Af2.more (h : Af2 w rb sb P Q A1 a1 A2 a2 F G m n wr) {k : Nat} (hm : m ≤ k) (hn : n ≤ k) : Af2 w rb sb P Q A1 a1 A2 a2 F G k k wr := ⟨h.b, h.A.more hm, h.B.more hn, h.l1, h.l2⟩
theorem ak39 {v1 v2 x0 x1 x2 x3 x4 x5 : Value} {tb : Nat} {T : TypeId} (h : Af0 w rb sb P Q v1 v2 wr) (t : Holds wr tb #[x0, x1, x2, x3, x4, x5] T) : wr.cell? ⟨rb, 0, none⟩ = some v1 ∧ wr.cell? ⟨rb, 1, none⟩ = some v2 ∧ wr.cell? ⟨tb, 1, none⟩ = some x1 := ⟨h.rg.cell 0, h.rg.cell 1, t.cell 1⟩
theorem ak59 {v1 v2 x0 x1 x2 x3 x4 x5 : Value} {tb : Nat} {T : TypeId} (h : Af0 w rb sb P Q v1 v2 wr) (t : Holds wr tb #[x0, x1, x2, x3, x4, x5] T) : wr.cell? ⟨rb, 0, none⟩ = some v1 ∧ wr.cell? ⟨rb, 1, none⟩ = some v2 ∧ wr.cell? ⟨tb, 1, none⟩ = some x1 ∧ wr.cell? ⟨tb, 2, none⟩ = some x2 ∧ wr.cell? ⟨tb, 3, none⟩ = some x3 := ⟨h.rg.cell 0, h.rg.cell 1, t.cell 1, t.cell 2, t.cell 3⟩
end
set_option maxRecDepth 100000 in
set_option maxHeartbeats 40000000 in
theorem falike_law (x0 x1 x2 x3 : Int) (x4 : Nat) (y0 y1 y2 y3 : Int) (y4 : Nat) (v : Value) {w : World} (hx4 : x4 < 18446744073709551616) (hy4 : y4 < 18446744073709551616) (hv : SlL w v) :
    Calls Tryz.prog 7 #[.agg #[.int .i64 x0, .int .i64 x1, .int .i64 x2, .int .i64 x3, .int .u64 (x4 : Int)], .agg #[.int .i64 y0, .int .i64 y1, .int .i64 y2, .int .i64 y3, .int .u64 (y4 : Int)], v] w fun e w' => e = .returned (.bool true) ∧ Gr [] w w' := by
  have HV := Lib.hid hv
  have HSx := Lib.hid (fun W => small09 x0 x1 x2 x3 x4 W)
  have HSy := Lib.hid (fun W => small09 y0 y1 y2 y3 y4 W)
  have bx2 := mx_nonneg x2
  have bx3 := mx_nonneg x3
  have by2 := mx_nonneg y2
  have by3 := mx_nonneg y3
  obtain ⟨U, hU⟩ : ∃ C, C = smallC x0 x1 x2 x3 x4 := ⟨_, rfl⟩
  obtain ⟨T, hT⟩ : ∃ C, C = smallC y0 y1 y2 y3 y4 := ⟨_, rfl⟩
  have tU : (0 ≤ U.s ∧ U.s ≤ 4) ∧ (1 ≤ U.psi ∧ U.psi ≤ 4) ∧ U.key < 18446744073709551616 := by rw [hU]; unfold smallC; exact ⟨by simp only; omega, by simp only; omega, hx4⟩
  have tT : (0 ≤ T.s ∧ T.s ≤ 4) ∧ (1 ≤ T.psi ∧ T.psi ≤ 4) ∧ T.key < 18446744073709551616 := by rw [hT]; unfold smallC; exact ⟨by simp only; omega, by simp only; omega, hy4⟩
  rw [← hU] at HSx
  rw [← hT] at HSy
  obtain ⟨oP, fP1, fP2⟩ := tame_ok (R := 3) (L := 2) (by omega) (by omega) tU.1 tU.2.1 tU.2.2
  obtain ⟨oQ, fQ1, fQ2⟩ := tame_ok (R := 2) (L := 3) (by omega) (by omega) tT.1 tT.2.1 tT.2.2
  obtain ⟨P, hP⟩ : ∃ P : CfgZ, P = ⟨3, 2, U.s, U.psi, U.key⟩ := ⟨_, rfl⟩
  obtain ⟨Q, hQ⟩ : ∃ Q : CfgZ, Q = ⟨2, 3, T.s, T.psi, T.key⟩ := ⟨_, rfl⟩
  rw [← hP] at oP fP1 fP2
  rw [← hQ] at oQ fQ1 fQ2
  have HPe := Lib.hid (show P.r = 3 ∧ P.l = 2 ∧ P.s = U.s ∧ P.psi = U.psi ∧ P.key = U.key by rw [hP]; exact ⟨rfl, rfl, rfl, rfl, rfl⟩)
  have HQe := Lib.hid (show Q.r = 2 ∧ Q.l = 3 ∧ Q.s = T.s ∧ Q.psi = T.psi ∧ Q.key = T.key by rw [hQ]; exact ⟨rfl, rfl, rfl, rfl, rfl⟩)
  have HP6 := Lib.hid (show cR P * cL P = 6 by rw [hP]; rfl)
  have HQ6 := Lib.hid (show cR Q * cL Q = 6 by rw [hQ]; rfl)
  obtain ⟨nP, hnP⟩ : ∃ n : Nat, (n : Int) = sizeC P := ⟨(sizeC P).toNat, by omega⟩
  obtain ⟨nQ, hnQ⟩ : ∃ n : Nat, (n : Int) = sizeC Q := ⟨(sizeC Q).toNat, by omega⟩
  have HNP := Lib.hid (show 1 ≤ nP ∧ nP ≤ 8192 by omega)
  have HNQ := Lib.hid (show 1 ≤ nQ ∧ nQ ≤ 8192 by omega)
  have HZP := Lib.hid (fun W => show Calls Tryz.prog 37 #[.agg #[.int .i64 P.r, .int .i64 P.l, .int .i64 P.s, .int .i64 P.psi, .int .u64 (P.key : Int)]] W (fun e w' => e = .returned (.int .i64 (nP : Int)) ∧ Gr [] W w') from by rw [hnP]; exact csize_any P oP.wf.1 W)
  have HZQ := Lib.hid (fun W => show Calls Tryz.prog 37 #[.agg #[.int .i64 Q.r, .int .i64 Q.l, .int .i64 Q.s, .int .i64 Q.psi, .int .u64 (Q.key : Int)]] W (fun e w' => e = .returned (.int .i64 (nQ : Int)) ∧ Gr [] W w') from by rw [hnQ]; exact csize_any Q oQ.wf.1 W)
  obtain ⟨EP, P1, P2⟩ := FQ.begin oP (N := nP) (by omega)
  obtain ⟨EQ, Q1, Q2⟩ := FQ.begin oQ (N := nQ) (by omega)
  have HP1 := Lib.hid P1
  have HP2 := Lib.hid P2
  have HQ1 := Lib.hid Q1
  have HQ2 := Lib.hid Q2
  unfold cfgV at HSx HSy HP1 HQ1
  have hGx := (((Gr.refl [] w).alloc (Obj.cells #[.int .i64 x0, .int .i64 x1, .int .i64 x2, .int .i64 x3, .int .u64 (x4 : Int)] 24)).alloc (Obj.cells #[.int .i64 y0, .int .i64 y1, .int .i64 y2, .int .i64 y3, .int .u64 (y4 : Int)] 24))
  have hA := ((Holds.new w #[.int .i64 x0, .int .i64 x1, .int .i64 x2, .int .i64 x3, .int .u64 (x4 : Int)] 24).alloc (Obj.cells #[.int .i64 y0, .int .i64 y1, .int .i64 y2, .int .i64 y3, .int .u64 (y4 : Int)] 24))
  have hB := Holds.new (w.alloc (Obj.cells #[.int .i64 x0, .int .i64 x1, .int .i64 x2, .int .i64 x3, .int .u64 (x4 : Int)] 24)) #[.int .i64 y0, .int .i64 y1, .int .i64 y2, .int .i64 y3, .int .u64 (y4 : Int)] 24
  rw [World.size_alloc] at hB
  have HG := Lib.hid hGx
  have HA := Lib.hid hA
  have HB := Lib.hid hB
  clear hv hU hT hP hQ tU tT P1 P2 Q1 Q2 hGx hA hB oP oQ fP1 fP2 fQ1 fQ2 hnP hnQ bx2 bx3 by2 by3 hx4 hy4
  go_enter Tryz.func7, Tryz.ntmps7
  go_upto_region 1 with fail
  generalize ((w.alloc (Obj.cells #[.int .i64 x0, .int .i64 x1, .int .i64 x2, .int .i64 x3, .int .u64 (x4 : Int)] 24)).alloc (Obj.cells #[.int .i64 y0, .int .i64 y1, .int .i64 y2, .int .i64 y3, .int .u64 (y4 : Int)] 24)) = w0 at *
  obtain ⟨b, hb⟩ : ∃ b, w.heap.size = b := ⟨_, rfl⟩
  have HWB := Lib.hid hb
  rw [hb] at HA HB ⊢
  clear hb
  go_cut [7, 8] (fun v7 v8 wz => ∃ pb qb : Nat, v7 = .pointer (some ⟨pb, 0, none⟩) ∧ v8 = .pointer (some ⟨qb, 0, none⟩) ∧ Holds wz pb #[.int .i64 U.r, .int .i64 U.l, .int .i64 U.s, .int .i64 U.psi, .int .u64 (U.key : Int)] 37 ∧ Holds wz qb #[.int .i64 T.r, .int .i64 T.l, .int .i64 T.s, .int .i64 T.psi, .int .u64 (T.key : Int)] 37 ∧ qb ≠ pb ∧ b ≤ pb ∧ b ≤ qb ∧ Gr [] w wz)
  case first =>
    have hb0 : b + 1 < w0.heap.size := HB.out.lt
    have s0 := hc10 HA.out HB.out
    go_region_held3 (fun w' : World => b + 1 < w'.heap.size ∧ w'.cell? ⟨b, 0, none⟩ = some (.int .i64 x0) ∧ w'.cell? ⟨b, 1, none⟩ = some (.int .i64 x1) ∧ w'.cell? ⟨b, 2, none⟩ = some (.int .i64 x2) ∧ w'.cell? ⟨b, 3, none⟩ = some (.int .i64 x3) ∧ w'.cell? ⟨b, 4, none⟩ = some (.int .u64 (x4 : Int)) ∧ w'.cell? ⟨b + 1, 0, none⟩ = some (.int .i64 y0) ∧ w'.cell? ⟨b + 1, 1, none⟩ = some (.int .i64 y1) ∧ w'.cell? ⟨b + 1, 2, none⟩ = some (.int .i64 y2) ∧ w'.cell? ⟨b + 1, 3, none⟩ = some (.int .i64 y3) ∧ w'.cell? ⟨b + 1, 4, none⟩ = some (.int .u64 (y4 : Int))) (with_reducible (first | assumption | exact tAl9 (by assumption) _ | (repeat (first | assumption | refine tAl9 ?_ _ | refine tSt9 ?_ (by simp only; omega) _ | refine tDr9 ?_)))) ((first
      | (go_at_call 8; (with_reducible refine Calls.mono (HSy.out _) ?_); rintro r w6 ⟨rfl, g6⟩; (have G6 : Gr [] w5 w6 := (by refine Gr.next0 ?_ g6; (repeat (with_reducible first | exact Gr.refl _ _ | refine Gr.alloc ?_ _ | refine Gr.drew ?_)))); have GK6 := HC5.out.next0 G6; (first | (with_reducible have zz6 := And.intro (zz.1.gr0 G6) (zz.2.gr0 G6)) | (with_reducible have zz6 := zz.gr0 G6) | have zz6 := True.intro); (first | (with_reducible have yy := al29 g6) | (with_reducible have yy := al2d9 g6) | (with_reducible have yy := al19 g6) | (with_reducible have yy := al1d9 g6) | have yy := True.intro); (first | (with_reducible obtain ⟨za, zb⟩ := zz6; have ka := cf59 za; have kb := cf59 zb; have kc := fun (o : Obj) => cf59 (za.alloc o); have kd := fun (o : Obj) => cf59 (zb.alloc o); have lta := za.lt; have ltb := zb.lt) | (with_reducible have ka := cf59 zz6; have kc := fun (o : Obj) => cf59 (zz6.alloc o); have ltz6 := zz6.lt; have ltz := zz.lt) | skip); (first | (with_reducible obtain ⟨ya, yb⟩ := yy; have la := cf59 ya; have lb := cf59 yb; have lc := fun (o : Obj) => cf59 (ya.alloc o); have ld := fun (o : Obj) => cf59 (yb.alloc o); have ltya := ya.lt; have ltyb := yb.lt) | (with_reducible have la := cf59 yy; have lc := fun (o : Obj) => cf59 (yy.alloc o); have lty := yy.lt) | skip); have s6 := tG9 s5 G6; have sz6 := GK6.size; have sz5 := G6.size; clear g6)
      | (go_at_call 8; (with_reducible refine Calls.mono (HSx.out _) ?_); rintro r w5 ⟨rfl, g5⟩; (have G5 : Gr [] w0 w5 := (by refine Gr.next0 ?_ g5; (repeat (with_reducible first | exact Gr.refl _ _ | refine Gr.alloc ?_ _ | refine Gr.drew ?_)))); have HC5 := Lib.hid G5; (first | (with_reducible have zz := al29 g5) | (with_reducible have zz := al2d9 g5) | (with_reducible have zz := al19 g5) | (with_reducible have zz := al1d9 g5) | have zz := True.intro); have s5 := tG9 s0 G5; have sz0 := G5.size; clear g5)))
    all_goals
      go_wp2_with fail
      go_meet
      refine ⟨_, _, rfl, rfl, ?_, ?_, ?_, ?_, ?_, ?_⟩
      all_goals have hwb := HWB.out
      all_goals have hgk := HG.out.trans GK6
      all_goals repeat (first
        | (with_reducible assumption)
        | ((with_reducible show (_ : Nat) ≠ _); (try simp only [World.size_setCell, World.size_alloc, World.size_drew]); omega)
        | ((with_reducible show (_ : Nat) ≤ _); (try simp only [World.size_setCell, World.size_alloc, World.size_drew]); omega)
        | (with_reducible refine Holds.drew ?_)
        | (with_reducible refine newB9 ?_; (first | rfl | (simp only [World.size_setCell, World.size_alloc, World.size_drew]; done)))
        | (with_reducible refine holds59 (a0 := .int .i64 0) (a1 := .int .i64 0) (a2 := .int .i64 0) (a3 := .int .i64 0) (a4 := .int .u64 0) ?_)
        | (with_reducible refine alB9 ?_)
        | (with_reducible refine farB9 ?_ ?_; (simp only [World.size_setCell, World.size_alloc, World.size_drew]; omega))
        | (with_reducible refine Gr.alloc ?_ _)
        | (with_reducible refine Gr.drew ?_)
        | (with_reducible refine grS9 ?_ ?_; (simp only [World.size_setCell, World.size_alloc, World.size_drew]; omega)))
      all_goals fail "LEFT"
  case rest =>
    obtain ⟨pb, qb, rfl, rfl, hp, hq, hne, hbp, hbq, hg⟩ := hcut
    have c0 : wc.cell? ⟨pb, 0, none⟩ = some (.int .i64 U.r) := hp.cell 0
    have c1 : wc.cell? ⟨pb, 1, none⟩ = some (.int .i64 U.l) := hp.cell 1
    have d0 : wc.cell? ⟨qb, 0, none⟩ = some (.int .i64 T.r) := hq.cell 0
    have d1 : wc.cell? ⟨qb, 1, none⟩ = some (.int .i64 T.l) := hq.cell 1
    have fc0 := hp.frozen 0
    have fc1 := hp.frozen 1
    have fd0 := hq.frozen 0
    have fd1 := hq.frozen 1
    have hwp : w.heap.size ≤ pb := by rw [HWB.out]; exact hbp
    have hwq : w.heap.size ≤ qb := by rw [HWB.out]; exact hbq
    have hp1 : Holds ((wc.setCell ⟨pb, 0, none⟩ (.int .i64 3)).setCell ⟨pb, 1, none⟩ (.int .i64 2)) pb #[.int .i64 P.r, .int .i64 P.l, .int .i64 P.s, .int .i64 P.psi, .int .u64 (P.key : Int)] 37 := by
      obtain ⟨e1, e2, e3, e4, e5⟩ := HPe.out
      rw [e1, e2, e3, e4, e5]
      have := (hp.set 0 (.int .i64 3)).set 1 (.int .i64 2)
      simpa using this
    have hp2 := (hp1.far (a := ⟨qb, 0, none⟩) (Ne.symm hne) (.int .i64 2)).far (a := ⟨qb, 1, none⟩) (Ne.symm hne) (.int .i64 3)
    have hq1 : Holds ((((wc.setCell ⟨pb, 0, none⟩ (.int .i64 3)).setCell ⟨pb, 1, none⟩ (.int .i64 2)).setCell ⟨qb, 0, none⟩ (.int .i64 2)).setCell ⟨qb, 1, none⟩ (.int .i64 3)) qb #[.int .i64 Q.r, .int .i64 Q.l, .int .i64 Q.s, .int .i64 Q.psi, .int .u64 (Q.key : Int)] 37 := by
      obtain ⟨e1, e2, e3, e4, e5⟩ := HQe.out
      rw [e1, e2, e3, e4, e5]
      have := ((((hq.far (a := ⟨pb, 0, none⟩) hne (.int .i64 3)).far (a := ⟨pb, 1, none⟩) hne (.int .i64 2)).set 0 (.int .i64 2)).set 1 (.int .i64 3))
      simpa using this
    have hg1 := (((hg.setCell (p := ⟨pb, 0, none⟩) (.inr hwp) (.int .i64 3)).setCell (p := ⟨pb, 1, none⟩) (.inr hwp) (.int .i64 2)).setCell (p := ⟨qb, 0, none⟩) (.inr hwq) (.int .i64 2)).setCell (p := ⟨qb, 1, none⟩) (.inr hwq) (.int .i64 3)
    have h1 := And.intro hp2 (And.intro hq1 hg1)
    have HST := Lib.hid (And.intro hne (And.intro hbp hbq))
    have hne1 : pb ≠ qb := Ne.symm hne
    clear hp hq hbp hbq hg HSx HSy HA HB HG hp1 hp2 hq1 hg1 hwp hwq
    go_upto_region 3 with fail
    have H1 := Lib.hid h1
    clear h1 c0 c1 d0 d1 fc0 fc1 fd0 fd1 hne1 hne
    generalize ((((wc.setCell ⟨pb, 0, none⟩ (.int .i64 3)).setCell ⟨pb, 1, none⟩ (.int .i64 2)).setCell ⟨qb, 0, none⟩ (.int .i64 2)).setCell ⟨qb, 1, none⟩ (.int .i64 3)) = w1 at *
    go_upto_region 4 with fail
    have hr := Holds.new w1 #[.pointer none, .pointer none] 96
    have ga := (Gr.refl [] w1).alloc (Obj.cells #[.pointer none, .pointer none] 96)
    have H2 := Lib.hid (And.intro hr (And.intro (H1.out.1.gr0 ga) (And.intro (H1.out.2.1.gr0 ga) (H1.out.2.2.trans ga))))
    have HSZ1 := Lib.hid H1.out.2.2.size
    clear hr ga H1
    generalize (w1.alloc (Obj.cells #[.pointer none, .pointer none] 96)) = w2 at *
    obtain ⟨rb, hrb⟩ : ∃ rb, w1.heap.size = rb := ⟨_, rfl⟩
    rw [hrb] at H2 HSZ1 ⊢
    clear hrb
    have p0 : w2.cell? ⟨pb, 0, none⟩ = some (.int .i64 P.r) := H2.out.2.1.cell 0
    have p1 : w2.cell? ⟨pb, 1, none⟩ = some (.int .i64 P.l) := H2.out.2.1.cell 1
    have p2 : w2.cell? ⟨pb, 2, none⟩ = some (.int .i64 P.s) := H2.out.2.1.cell 2
    have p3 : w2.cell? ⟨pb, 3, none⟩ = some (.int .i64 P.psi) := H2.out.2.1.cell 3
    have p4 : w2.cell? ⟨pb, 4, none⟩ = some (.int .u64 (P.key : Int)) := H2.out.2.1.cell 4
    have q0 : w2.cell? ⟨qb, 0, none⟩ = some (.int .i64 Q.r) := H2.out.2.2.1.cell 0
    have q1 : w2.cell? ⟨qb, 1, none⟩ = some (.int .i64 Q.l) := H2.out.2.2.1.cell 1
    have q2 : w2.cell? ⟨qb, 2, none⟩ = some (.int .i64 Q.s) := H2.out.2.2.1.cell 2
    have q3 : w2.cell? ⟨qb, 3, none⟩ = some (.int .i64 Q.psi) := H2.out.2.2.1.cell 3
    have q4 : w2.cell? ⟨qb, 4, none⟩ = some (.int .u64 (Q.key : Int)) := H2.out.2.2.1.cell 4
    go_upto_region 5 with fail
    have hs := Holds.new w2 #[.int .i64 P.r, .int .i64 P.l, .int .i64 P.s, .int .i64 P.psi, .int .u64 (P.key : Int), .int .i64 Q.r, .int .i64 Q.l, .int .i64 Q.s, .int .i64 Q.psi, .int .u64 (Q.key : Int)] 37
    have ga := (Gr.refl [] w2).alloc (Obj.cells #[.int .i64 P.r, .int .i64 P.l, .int .i64 P.s, .int .i64 P.psi, .int .u64 (P.key : Int), .int .i64 Q.r, .int .i64 Q.l, .int .i64 Q.s, .int .i64 Q.psi, .int .u64 (Q.key : Int)] 37)
    have H3 := Lib.hid (show Af0 w rb w2.heap.size P Q (.pointer none) (.pointer none) _ from ⟨H2.out.2.2.2.trans ga, hs, H2.out.1.gr0 ga, HSZ1.out, H2.out.1.lt⟩)
    clear hs ga p0 p1 p2 p3 p4 q0 q1 q2 q3 q4 H2 HST HSZ1
    generalize (w2.alloc (Obj.cells #[.int .i64 P.r, .int .i64 P.l, .int .i64 P.s, .int .i64 P.psi, .int .u64 (P.key : Int), .int .i64 Q.r, .int .i64 Q.l, .int .i64 Q.s, .int .i64 Q.psi, .int .u64 (Q.key : Int)] 37)) = w3 at *
    obtain ⟨sb, hsb⟩ : ∃ sb, w2.heap.size = sb := ⟨_, rfl⟩
    rw [hsb] at H3 ⊢
    clear hsb
    go_loopw [37] (fun z wr => (z = .int .i64 0 ∧ Af0 w rb sb P Q (.pointer none) (.pointer none) wr) ∨ (z = .int .i64 1 ∧ ∃ (A1 : FlA) (a1 : DevA), Af0 w rb sb P Q (.pointer (some ⟨A1.fb, 0, none⟩)) (.pointer none) wr ∧ FQ P A1 a1 (fun _ _ => 0) 0 wr ∧ ∀ x ∈ A1.all (cR P) ++ a1.all, sb < x) ∨ (z = .int .i64 2 ∧ ∃ (A1 : FlA) (a1 : DevA) (A2 : FlA) (a2 : DevA), Af2 w rb sb P Q A1 a1 A2 a2 (fun _ _ => 0) (fun _ _ => 0) 0 0 wr)) (fun z _ => 2 - (intOf z).toNat)
    case atStart => exact .inl ⟨rfl, H3.out⟩
    case round =>
      clear H3
      rcases hrel with ⟨rfl, ha⟩ | ⟨rfl, A1, a1, ha, hr, hl⟩ | ⟨rfl, A1, a1, A2, a2, ha⟩
      · skip
        have s0 : wr.cell? ⟨sb, 0, none⟩ = some (.int .i64 P.r) := ha.sl.cell 0
        have s1 : wr.cell? ⟨sb, 1, none⟩ = some (.int .i64 P.l) := ha.sl.cell 1
        have s2 : wr.cell? ⟨sb, 2, none⟩ = some (.int .i64 P.s) := ha.sl.cell 2
        have s3 : wr.cell? ⟨sb, 3, none⟩ = some (.int .i64 P.psi) := ha.sl.cell 3
        have s4 : wr.cell? ⟨sb, 4, none⟩ = some (.int .u64 (P.key : Int)) := ha.sl.cell 4
        have hl0 := ha.sl.lt
        have HA := Lib.hid ha
        clear ha
        go_upto_region 7 with fail
        have ht := Holds.new wr #[.int .i64 P.r, .int .i64 P.l, .int .i64 P.s, .int .i64 P.psi, .int .u64 (P.key : Int)] 37
        have ga := (Gr.refl [] wr).alloc (Obj.cells #[.int .i64 P.r, .int .i64 P.l, .int .i64 P.s, .int .i64 P.psi, .int .u64 (P.key : Int)] 37)
        have HB := Lib.hid (And.intro ht (HA.out.next0 ga))
        have HTB := Lib.hid hl0
        clear ht ga s0 s1 s2 s3 s4 hl0 HA
        generalize (wr.alloc (Obj.cells #[.int .i64 P.r, .int .i64 P.l, .int .i64 P.s, .int .i64 P.psi, .int .u64 (P.key : Int)] 37)) = w4 at *
        obtain ⟨tb, htb⟩ : ∃ tb, wr.heap.size = tb := ⟨_, rfl⟩
        rw [htb] at HB HTB ⊢
        clear htb
        have c0 : w4.cell? ⟨tb, 0, none⟩ = some (.int .i64 P.r) := HB.out.1.cell 0
        have c1 : w4.cell? ⟨tb, 1, none⟩ = some (.int .i64 P.l) := HB.out.1.cell 1
        have c2 : w4.cell? ⟨tb, 2, none⟩ = some (.int .i64 P.s) := HB.out.1.cell 2
        have c3 : w4.cell? ⟨tb, 3, none⟩ = some (.int .i64 P.psi) := HB.out.1.cell 3
        have c4 : w4.cell? ⟨tb, 4, none⟩ = some (.int .u64 (P.key : Int)) := HB.out.1.cell 4
        go_wp2_with fail
        with_reducible refine (HZP.out _).mono ?_
        rintro e w4a ⟨rfl, g4a⟩
        have HBa := Lib.hid (And.intro (HB.out.1.gr0 g4a) (HB.out.2.next0 g4a))
        clear g4a c0 c1 c2 c3 c4 HB
        go_wp2_with fail
        refine (pmnew_yes nP _ HNP.out.1 HNP.out.2).mono ?_
        rintro e w5 ⟨a, rfl, d5, hlo, g5⟩
        have HLO := Lib.hid (show ∀ x ∈ a.all, tb < x from fun x hx => by have := hlo x hx; have := HBa.out.1.lt; omega)
        have HL1 := Lib.hid hlo
        have H5 := Lib.hid (And.intro d5 (And.intro (HBa.out.1.gr0 g5) (HBa.out.2.next0 g5)))
        have HS45 := Lib.hid g5.size
        have HT4 := Lib.hid HBa.out.1.lt
        have c0 : w5.cell? ⟨tb, 0, none⟩ = some (.int .i64 P.r) := H5.out.2.1.cell 0
        have c1 : w5.cell? ⟨tb, 1, none⟩ = some (.int .i64 P.l) := H5.out.2.1.cell 1
        have c2 : w5.cell? ⟨tb, 2, none⟩ = some (.int .i64 P.s) := H5.out.2.1.cell 2
        have c3 : w5.cell? ⟨tb, 3, none⟩ = some (.int .i64 P.psi) := H5.out.2.1.cell 3
        have c4 : w5.cell? ⟨tb, 4, none⟩ = some (.int .u64 (P.key : Int)) := H5.out.2.1.cell 4
        clear d5 g5 hlo
        go_wp2_with fail
        with_reducible refine (HP1.out _ a H5.out.1).mono ?_
        rintro e w6 ⟨rfl, d6, g6⟩
        have H6 := Lib.hid (And.intro d6 (And.intro (H5.out.2.1.gr g6 fun e => by have := HLO.out _ e; omega) (H5.out.2.2.next g6 fun x hx => Nat.lt_trans HTB.out (HLO.out x hx))))
        have HS46 := Lib.hid (Nat.le_trans HS45.out g6.size)
        clear d6 g6 c0 c1 c2 c3 c4 H5 HBa
        go_wp2_with fail
        refine (HP2.out _ a H6.out.1).mono ?_
        rintro e w7 ⟨An, rfl, r7, hnew, g7⟩
        have HKN := Lib.hid (show ∀ x ∈ An.all (cR P) ++ a.all, w4a.heap.size ≤ x ∧ sb < x from fun x hx => by
          have h4 : w4a.heap.size ≤ x := by
            rcases List.mem_append.1 hx with hx | hx
            · exact Nat.le_trans HS46.out (hnew _ hx)
            · exact HL1.out x hx
          exact ⟨h4, Nat.lt_of_lt_of_le (Nat.lt_trans HTB.out HT4.out) h4⟩)
        have H7 := Lib.hid (And.intro r7 (H6.out.2.2.next0 g7))
        have r0 := H7.out.2.rg.cell 0
        have fz := H7.out.2.rg.frozen 0
        clear r7 hnew g7 H6
        go_upto_region 12 with fail
        have H8 := Lib.hid (And.intro (H7.out.2.set0 (.pointer (some ⟨An.fb, 0, none⟩))) (H7.out.1.setB (i := 0) (fun x hx => (HKN.out x hx).2) H7.out.2.lt.2 (.pointer (some ⟨An.fb, 0, none⟩))))
        clear H7 r0 fz
        generalize w7.setCell ⟨rb, 0, none⟩ (.pointer (some ⟨An.fb, 0, none⟩)) = w8 at *
        have r0 := H8.out.1.rg.cell 0
        go_wp2_with fail
        go_roundw
        case rel => exact .inr (.inl ⟨rfl, An, a, H8.out.1, H8.out.2, fun x hx => (HKN.out x hx).2⟩)
        case measure => simp [intOf]
      · skip
        have s0 : wr.cell? ⟨sb, 5, none⟩ = some (.int .i64 Q.r) := ha.sl.cell 5
        have s1 : wr.cell? ⟨sb, 6, none⟩ = some (.int .i64 Q.l) := ha.sl.cell 6
        have s2 : wr.cell? ⟨sb, 7, none⟩ = some (.int .i64 Q.s) := ha.sl.cell 7
        have s3 : wr.cell? ⟨sb, 8, none⟩ = some (.int .i64 Q.psi) := ha.sl.cell 8
        have s4 : wr.cell? ⟨sb, 9, none⟩ = some (.int .u64 (Q.key : Int)) := ha.sl.cell 9
        have hl0 := ha.sl.lt
        have HA := Lib.hid (And.intro ha (And.intro hr hl))
        clear ha hr hl
        go_upto_region 7 with fail
        have ht := Holds.new wr #[.int .i64 Q.r, .int .i64 Q.l, .int .i64 Q.s, .int .i64 Q.psi, .int .u64 (Q.key : Int)] 37
        have ga := (Gr.refl [] wr).alloc (Obj.cells #[.int .i64 Q.r, .int .i64 Q.l, .int .i64 Q.s, .int .i64 Q.psi, .int .u64 (Q.key : Int)] 37)
        have HB := Lib.hid (And.intro ht (And.intro (HA.out.1.next0 ga) (And.intro (HA.out.2.1.gr0 ga) HA.out.2.2)))
        have HTB := Lib.hid hl0
        clear ht ga s0 s1 s2 s3 s4 hl0 HA
        generalize (wr.alloc (Obj.cells #[.int .i64 Q.r, .int .i64 Q.l, .int .i64 Q.s, .int .i64 Q.psi, .int .u64 (Q.key : Int)] 37)) = w4 at *
        obtain ⟨tb, htb⟩ : ∃ tb, wr.heap.size = tb := ⟨_, rfl⟩
        rw [htb] at HB HTB ⊢
        clear htb
        have c0 : w4.cell? ⟨tb, 0, none⟩ = some (.int .i64 Q.r) := HB.out.1.cell 0
        have c1 : w4.cell? ⟨tb, 1, none⟩ = some (.int .i64 Q.l) := HB.out.1.cell 1
        have c2 : w4.cell? ⟨tb, 2, none⟩ = some (.int .i64 Q.s) := HB.out.1.cell 2
        have c3 : w4.cell? ⟨tb, 3, none⟩ = some (.int .i64 Q.psi) := HB.out.1.cell 3
        have c4 : w4.cell? ⟨tb, 4, none⟩ = some (.int .u64 (Q.key : Int)) := HB.out.1.cell 4
        go_wp2_with fail
        with_reducible refine (HZQ.out _).mono ?_
        rintro e w4a ⟨rfl, g4a⟩
        have HBa := Lib.hid (And.intro (HB.out.1.gr0 g4a) (And.intro (HB.out.2.1.next0 g4a) (And.intro (HB.out.2.2.1.gr0 g4a) HB.out.2.2.2)))
        clear g4a c0 c1 c2 c3 c4 HB
        go_wp2_with fail
        refine (pmnew_yes nQ _ HNQ.out.1 HNQ.out.2).mono ?_
        rintro e w5 ⟨a, rfl, d5, hlo, g5⟩
        have HLO := Lib.hid (show ∀ x ∈ a.all, tb < x from fun x hx => by have := hlo x hx; have := HBa.out.1.lt; omega)
        have HL1 := Lib.hid hlo
        have HL4 := Lib.hid (show ∀ x ∈ A1.all (cR P) ++ a1.all, x < w4a.heap.size from HBa.out.2.2.1.lt)
        have H5 := Lib.hid (And.intro d5 (And.intro (HBa.out.1.gr0 g5) (And.intro (HBa.out.2.1.next0 g5) (And.intro (HBa.out.2.2.1.gr0 g5) HBa.out.2.2.2))))
        have HS45 := Lib.hid g5.size
        have HT4 := Lib.hid HBa.out.1.lt
        have c0 : w5.cell? ⟨tb, 0, none⟩ = some (.int .i64 Q.r) := H5.out.2.1.cell 0
        have c1 : w5.cell? ⟨tb, 1, none⟩ = some (.int .i64 Q.l) := H5.out.2.1.cell 1
        have c2 : w5.cell? ⟨tb, 2, none⟩ = some (.int .i64 Q.s) := H5.out.2.1.cell 2
        have c3 : w5.cell? ⟨tb, 3, none⟩ = some (.int .i64 Q.psi) := H5.out.2.1.cell 3
        have c4 : w5.cell? ⟨tb, 4, none⟩ = some (.int .u64 (Q.key : Int)) := H5.out.2.1.cell 4
        clear d5 g5 hlo
        go_wp2_with fail
        with_reducible refine (HQ1.out _ a H5.out.1).mono ?_
        rintro e w6 ⟨rfl, d6, g6⟩
        have H6 := Lib.hid (And.intro d6 (And.intro (H5.out.2.1.gr g6 fun e => by have := HLO.out _ e; omega) (And.intro (H5.out.2.2.1.next g6 fun x hx => Nat.lt_trans HTB.out (HLO.out x hx)) (And.intro (H5.out.2.2.2.1.gr g6 fun x hx e => by have := HL1.out x e; have := HL4.out x hx; omega) H5.out.2.2.2.2))))
        have HS46 := Lib.hid (Nat.le_trans HS45.out g6.size)
        clear d6 g6 c0 c1 c2 c3 c4 H5 HBa
        go_wp2_with fail
        refine (HQ2.out _ a H6.out.1).mono ?_
        rintro e w7 ⟨An, rfl, r7, hnew, g7⟩
        have HKN := Lib.hid (show ∀ x ∈ An.all (cR Q) ++ a.all, w4a.heap.size ≤ x ∧ sb < x from fun x hx => by
          have h4 : w4a.heap.size ≤ x := by
            rcases List.mem_append.1 hx with hx | hx
            · exact Nat.le_trans HS46.out (hnew _ hx)
            · exact HL1.out x hx
          exact ⟨h4, Nat.lt_of_lt_of_le (Nat.lt_trans HTB.out HT4.out) h4⟩)
        have H7 := Lib.hid (And.intro r7 (And.intro (H6.out.2.2.1.next0 g7) (And.intro (H6.out.2.2.2.1.gr0 g7) H6.out.2.2.2.2)))
        have r0 := H7.out.2.1.rg.cell 1
        have fz := H7.out.2.1.rg.frozen 1
        clear r7 hnew g7 H6
        go_upto_region 12 with fail
        have H8 := Lib.hid (show Af2 w rb sb P Q A1 a1 An a _ _ 0 0 _ from ⟨H7.out.2.1.set1 (.pointer (some ⟨An.fb, 0, none⟩)), H7.out.2.2.1.setB (i := 1) H7.out.2.2.2 H7.out.2.1.lt.2 (.pointer (some ⟨An.fb, 0, none⟩)), H7.out.1.setB (i := 1) (fun x hx => (HKN.out x hx).2) H7.out.2.1.lt.2 (.pointer (some ⟨An.fb, 0, none⟩)), H7.out.2.2.2, fun x hx => ⟨(HKN.out x hx).2, fun e => by have := HL4.out x e; have := (HKN.out x hx).1; omega⟩⟩)
        clear H7 r0 fz
        generalize w7.setCell ⟨rb, 1, none⟩ (.pointer (some ⟨An.fb, 0, none⟩)) = w8 at *
        have r0 := H8.out.b.rg.cell 1
        go_wp2_with fail
        go_roundw
        case rel => exact .inr (.inr ⟨rfl, A1, a1, An, a, H8.out⟩)
        case measure => simp [intOf]
      · skip
        have HA := Lib.hid ha
        clear ha
        go_upto_region 15 with fail
        go_cut [72, 73, 74] (fun sv nv iv wz => wz = wr ∧ iv = .int .i64 0 ∧ ∃ (M cap : Nat) (ao : Option Addr), sv = .slice ao M cap ∧ nv = .int .i64 (M : Int) ∧ M ≤ 30 ∧ ∀ k, k < M → ∃ (vb off : Nat) (x : ActL), ao = some ⟨vb, off, none⟩ ∧ vb < w.heap.size ∧ ActLIs w x ∧ ActLAt w vb (off + k * 6) x)
        case first =>
          rcases HV.out with ⟨ao, cap, rfl, hn, hm⟩ | ⟨vb, off, N, cap, xs, rfl, h1, h2, h3, h4, h5⟩
          · have hmn := minIs9 Tryz.prog 0 0 30 30 rfl rfl
            have HNN := Lib.hid hn
            unfold maxLen at hm
            clear hn HV
            cases ao
            case none =>
              obtain rfl := HNN.out rfl
              go_wp2_with fail
              go_meet
              exact ⟨rfl, rfl, 0, 0, none, rfl, rfl, by omega, fun k hk => by omega⟩
            case some ad =>
              go_wp2_with fail
              go_meet
              exact ⟨rfl, rfl, 0, _, _, rfl, rfl, by omega, fun k hk => by omega⟩
          · obtain ⟨M, hM⟩ : ∃ M, M = min N 30 := ⟨_, rfl⟩
            have hmn := minIs9 Tryz.prog N M 30 30 rfl hM
            have hM1 : M ≤ N := by omega
            have HM12 := Lib.hid (show M ≤ 30 by omega)
            have HCl := Lib.hid h5
            have HVB := Lib.hid h4
            unfold maxLen at h3
            clear hM h4 h5 HV
            have HML1 := Lib.hid hM1
            go_wp2_with fail
            go_meet
            exact ⟨rfl, rfl, M, _, _, rfl, rfl, HM12.out, fun k hk => ⟨vb, off, xs k, rfl, HVB.out, HCl.out k (by have := HML1.out; omega)⟩⟩
        case rest =>
          obtain ⟨rfl, rfl, M, cap, ao, rfl, rfl, hM40, hcl⟩ := hcut
          have HCl := Lib.hid hcl
          have HM40 := Lib.hid hM40
          clear hcl HV hM40
          go_wp2_with fail
          go_loopw [74] (fun z wr => ∃ (n : Nat) (F : Nat → Nat → Nat), n ≤ M ∧ z = .int .i64 (n : Int) ∧ Af2 w rb sb P Q A1 a1 A2 a2 F F (2 * n) (2 * n) wr) (fun z _ => M - (intOf z).toNat)
          case atStart => exact ⟨0, _, by omega, rfl, HA.out⟩
          case round =>
            clear HA
            obtain ⟨n, F, hn, rfl, ha⟩ := hrel
            have HA := Lib.hid ha
            clear ha
            by_cases hnM : n < M
            · skip
              obtain ⟨vb, off, x, rfl, hvb, hxi, e0, e1, e2, e3, e4, e5⟩ := HCl.out n hnM
              have e0 := (HA.out.b.gr.cell0 hvb).trans e0
              have e1 := (HA.out.b.gr.cell0 hvb).trans e1
              have e2 := (HA.out.b.gr.cell0 hvb).trans e2
              have e3 := (HA.out.b.gr.cell0 hvb).trans e3
              have e4 := (HA.out.b.gr.cell0 hvb).trans e4
              have e5 := (HA.out.b.gr.cell0 hvb).trans e5
              obtain ⟨xd, xz, xk, xv, xs, xao, xkl, xkc, xkp⟩ := x
              dsimp only at e0 e1 e2 e3 e4 e5
              have hxsz : xs.size ≤ 9223372036854775807 := by have := hxi.2.2.2.2.1; unfold maxLen at this; dsimp only at this; omega
              have HXV := Lib.hid (show xv < 18446744073709551616 from hxi.2.2.2.1)
              have ik : (n : Int) < (M : Int) := by omega
              have HNM := Lib.hid (show n + 1 ≤ M by omega)
              have hk0 : (0 : Int) ≤ (n : Int) := by omega
              obtain ⟨m8, hm8⟩ : ∃ m, m = min xs.size 64 := ⟨_, rfl⟩
              have hmn := minIs9 Tryz.prog xs.size m8 64 64 rfl hm8
              have hm8a : m8 ≤ xs.size := by omega
              have HM8 := Lib.hid (show m8 ≤ 64 by omega)
              have hmx := max0 Tryz.prog
              have hd0 := mx_nonneg xd
              have HN40 := Lib.hid (show 2 * n + 2 ≤ 60 by have := HM40.out; omega)
              clear hxi hvb hm8
              go_upto_region 18 with fail
              have ht := Holds.new wr #[.int .i64 xd, .int .i64 xz, .int .i64 xk, .int .u64 (xv : Int), .string xs, .slice xao xkl xkc] 47
              have ga := (Gr.refl [] wr).alloc (Obj.cells #[.int .i64 xd, .int .i64 xz, .int .i64 xk, .int .u64 (xv : Int), .string xs, .slice xao xkl xkc] 47)
              have HC := Lib.hid (HA.out.next0 ga)
              have HT := Lib.hid ht
              have HTN := Lib.hid (show wr.heap.size ∉ A1.all (cR P) ++ a1.all ∧ wr.heap.size ∉ A2.all (cR Q) ++ a2.all from ⟨fun e => by have := HA.out.A.lt _ e; omega, fun e => by have := HA.out.B.lt _ e; omega⟩)
              clear ht ga e0 e1 e2 e3 e4 e5 HA
              generalize (wr.alloc (Obj.cells #[.int .i64 xd, .int .i64 xz, .int .i64 xk, .int .u64 (xv : Int), .string xs, .slice xao xkl xkc] 47)) = w4 at *
              obtain ⟨tb, htb⟩ : ∃ tb, wr.heap.size = tb := ⟨_, rfl⟩
              rw [htb] at HT HTN ⊢
              clear htb
              have c4 := HT.out.cell 4
              have HFl := Lib.hid (fun W => full09 (xs.extract 0 m8) W (by rw [ByteArray.size_extract]; have := HM8.out; omega))
              obtain ⟨S, hS⟩ : ∃ S, S = fullS (xs.extract 0 m8) := ⟨_, rfl⟩
              rw [← hS] at HFl
              have HS64 := Lib.hid (show S.size = 64 by rw [hS]; exact fullS_size _)
              clear hS
              go_wp2_with fail
              refine (HFl.out _).mono ?_
              rintro e w5 ⟨rfl, g5⟩
              have HC5 := Lib.hid (HC.out.next0 g5)
              have HT5 := Lib.hid (HT.out.gr0 g5)
              clear g5 c4 HC HT HFl hmn hm8a hxsz
              go_upto_region 19 with fail
              obtain ⟨zz, hzz⟩ : ∃ zz, errP 6 xz = zz := ⟨_, rfl⟩
              have HPA := Lib.hid (fun (W : World) (h : FQ P A1 a1 F (2 * n) W) => h.put (by have := HN40.out; omega) xz S HS64.out)
              have HPB := Lib.hid (fun (W : World) (h : FQ Q A2 a2 F (2 * n) W) => h.put (by have := HN40.out; omega) xz S HS64.out)
              rw [HP6.out, hzz] at HPA
              rw [HQ6.out, hzz] at HPB
              obtain ⟨F2, hF2⟩ : ∃ F2, putF F xz S = F2 := ⟨_, rfl⟩
              rw [hF2] at HPA HPB
              clear hzz hF2
              have s0 := ak39 HC5.out.b HT5.out
              go_region_held3 (fun w' : World => w'.cell? ⟨rb, 0, none⟩ = some (.pointer (some ⟨A1.fb, 0, none⟩)) ∧ w'.cell? ⟨rb, 1, none⟩ = some (.pointer (some ⟨A2.fb, 0, none⟩)) ∧ w'.cell? ⟨tb, 1, none⟩ = some (.int .i64 xz)) (first | assumption | go_keep) ((first
                | (go_at_call 18; (with_reducible refine Calls.mono (HPB.out _ H6.out.1.B) ?_); rintro e w7 ⟨rfl, r7, g7⟩; have H7 := Lib.hid (And.intro (H6.out.1.put2 g7 r7) (H6.out.2.gr g7 HTN.out.2)); have s7 := ak39 H7.out.1.b H7.out.2; clear r7 g7)
                | (go_at_call 18; (with_reducible refine Calls.mono (HPA.out _ (HC5.out.next0 (Gr.refl [] w5).drew).A) ?_); rintro e w6 ⟨rfl, r6, g6⟩; have H6 := Lib.hid (And.intro ((HC5.out.next0 (Gr.refl [] w5).drew).put1 g6 r6) ((HT5.out.gr0 (Gr.refl [] w5).drew).gr g6 HTN.out.1)); have s6 := ak39 H6.out.1.b H6.out.2; clear r6 g6)))
              clear HPA HPB s0 s6 s7 H6 HC5 HT5
              have c0 := H7.out.2.cell 0
              by_cases hk : mx xd % 2 = 1
              · skip
                go_upto_region 21 with fail
                obtain ⟨zw, hzw⟩ : ∃ zw, errK 6 xz xk = zw := ⟨_, rfl⟩
                have HPA := Lib.hid (fun (W : World) (h : FQ P A1 a1 F2 (2 * n + 1) W) => h.word (by have := HN40.out; omega) xz xk xv HXV.out)
                have HPB := Lib.hid (fun (W : World) (h : FQ Q A2 a2 F2 (2 * n + 1) W) => h.word (by have := HN40.out; omega) xz xk xv HXV.out)
                rw [HP6.out, hzw] at HPA
                rw [HQ6.out, hzw] at HPB
                obtain ⟨F3, hF3⟩ : ∃ F3, wwF F2 xz xk xv = F3 := ⟨_, rfl⟩
                rw [hF3] at HPA HPB
                clear hzw hF3 hk hmx hd0 c0
                have s0 := ak59 H7.out.1.b H7.out.2
                go_region_held3 (fun w' : World => w'.cell? ⟨rb, 0, none⟩ = some (.pointer (some ⟨A1.fb, 0, none⟩)) ∧ w'.cell? ⟨rb, 1, none⟩ = some (.pointer (some ⟨A2.fb, 0, none⟩)) ∧ w'.cell? ⟨tb, 1, none⟩ = some (.int .i64 xz) ∧ w'.cell? ⟨tb, 2, none⟩ = some (.int .i64 xk) ∧ w'.cell? ⟨tb, 3, none⟩ = some (.int .u64 (xv : Int))) (first | assumption | go_keep) ((first
                  | (go_at_call 21; (with_reducible refine Calls.mono (HPB.out _ H8.out.1.B) ?_); rintro e w9 ⟨rfl, r9, g9⟩; have H9 := Lib.hid (And.intro (H8.out.1.put2 g9 r9) (H8.out.2.gr g9 HTN.out.2)); have s9 := ak59 H9.out.1.b H9.out.2; clear r9 g9)
                  | (go_at_call 21; (with_reducible refine Calls.mono (HPA.out _ (H7.out.1.next0 (Gr.refl [] w7).drew).A) ?_); rintro e w8 ⟨rfl, r8, g8⟩; have H8 := Lib.hid (And.intro ((H7.out.1.next0 (Gr.refl [] w7).drew).put1 g8 r8) ((H7.out.2.gr0 (Gr.refl [] w7).drew).gr g8 HTN.out.1)); have s8 := ak59 H8.out.1.b H8.out.2; clear r8 g8)))
                clear HPA HPB s0 s8 s9 H8 H7
                have c0 := True.intro
                have hmx := True.intro
                have hd0 := True.intro
                have hk := True.intro
                clear c0 hmx hd0 hk
                skip
                go_wp2_with fail
                go_loopw [124] (fun z wr => ∃ k : Nat, k ≤ 6 ∧ z = .int .i64 (k : Int) ∧ Af2 w rb sb P Q A1 a1 A2 a2 F3 F3 (2 * n + 2) (2 * n + 2) wr) (fun z _ => 6 - (intOf z).toNat)
                case atStart => exact ⟨0, by omega, rfl, H9.out.1⟩
                case round =>
                  clear H9
                  obtain ⟨k, hkl, rfl, ha⟩ := hrel
                  have HA := Lib.hid ha
                  clear ha
                  by_cases hkp : k < 6
                  · have il : (k : Int) < 6 := by omega
                    have HKP := Lib.hid hkp
                    clear hkp
                    have hw : IntKind.i64.wrap ((k : Int) + 1) = (k : Int) + 1 := IntWalk.i64_in _ (by have := HKP.out; omega)
                    have r0 := HA.out.b.rg.cell 0
                    go_wp2_with fail
                    refine (HA.out.A.read k (by rw [HP6.out]; exact HKP.out)).mono ?_
                    rintro e w10 ⟨rfl, g10⟩
                    have HB := Lib.hid (HA.out.next0 g10)
                    clear r0 g10 HA
                    have r1 := HB.out.b.rg.cell 1
                    go_wp2_with fail
                    refine (HB.out.B.read k (by rw [HQ6.out]; exact HKP.out)).mono ?_
                    rintro e w11 ⟨rfl, g11⟩
                    have HC := Lib.hid (HB.out.next0 g11)
                    clear r1 g11 HB
                    go_wp2_with fail
                    go_roundw
                    case rel => exact ⟨k + 1, HKP.out, by go_num, HC.out⟩
                    case measure => simp [intOf]; omega
                  · obtain rfl : k = 6 := by omega
                    have il : ¬ (((6 : Nat) : Int) < 6) := by omega
                    have hw : IntKind.i64.wrap ((n : Int) + 1) = (n : Int) + 1 := IntWalk.i64_in _ (by have := HN40.out; omega)
                    go_wp2_with fail
                    go_roundw
                    case rel => exact ⟨n + 1, F3, HNM.out, by go_num, by have h := HA.out; rw [show 2 * (n + 1) = 2 * n + 2 by omega]; exact h⟩
                    case measure => have := HNM.out; simp [intOf]; omega
              · skip
                have hkb : (mx xd % 2 == 1) = false := by simpa using hk
                clear hk
                have H9 := Lib.hid (And.intro (H7.out.1.more (k := 2 * n + 2) (by omega) (by omega)) H7.out.2)
                clear H7
                go_upto_region 22 with fail
                clear hkb
                have hk := True.intro
                clear c0 hmx hd0 hk
                skip
                go_wp2_with fail
                go_loopw [124] (fun z wr => ∃ k : Nat, k ≤ 6 ∧ z = .int .i64 (k : Int) ∧ Af2 w rb sb P Q A1 a1 A2 a2 F2 F2 (2 * n + 2) (2 * n + 2) wr) (fun z _ => 6 - (intOf z).toNat)
                case atStart => exact ⟨0, by omega, rfl, H9.out.1⟩
                case round =>
                  clear H9
                  obtain ⟨k, hkl, rfl, ha⟩ := hrel
                  have HA := Lib.hid ha
                  clear ha
                  by_cases hkp : k < 6
                  · have il : (k : Int) < 6 := by omega
                    have HKP := Lib.hid hkp
                    clear hkp
                    have hw : IntKind.i64.wrap ((k : Int) + 1) = (k : Int) + 1 := IntWalk.i64_in _ (by have := HKP.out; omega)
                    have r0 := HA.out.b.rg.cell 0
                    go_wp2_with fail
                    refine (HA.out.A.read k (by rw [HP6.out]; exact HKP.out)).mono ?_
                    rintro e w10 ⟨rfl, g10⟩
                    have HB := Lib.hid (HA.out.next0 g10)
                    clear r0 g10 HA
                    have r1 := HB.out.b.rg.cell 1
                    go_wp2_with fail
                    refine (HB.out.B.read k (by rw [HQ6.out]; exact HKP.out)).mono ?_
                    rintro e w11 ⟨rfl, g11⟩
                    have HC := Lib.hid (HB.out.next0 g11)
                    clear r1 g11 HB
                    go_wp2_with fail
                    go_roundw
                    case rel => exact ⟨k + 1, HKP.out, by go_num, HC.out⟩
                    case measure => simp [intOf]; omega
                  · obtain rfl : k = 6 := by omega
                    have il : ¬ (((6 : Nat) : Int) < 6) := by omega
                    have hw : IntKind.i64.wrap ((n : Int) + 1) = (n : Int) + 1 := IntWalk.i64_in _ (by have := HN40.out; omega)
                    go_wp2_with fail
                    go_roundw
                    case rel => exact ⟨n + 1, F2, HNM.out, by go_num, by have h := HA.out; rw [show 2 * (n + 1) = 2 * n + 2 by omega]; exact h⟩
                    case measure => have := HNM.out; simp [intOf]; omega
            · obtain rfl : n = M := by omega
              have ik : ¬ ((n : Int) < (n : Int)) := by omega
              go_wp2_with fail
              refine (wakes09 _).mono ?_
              rintro e w6 ⟨rfl, g6⟩
              have HB := Lib.hid (HA.out.next0 g6)
              clear g6 HA
              go_wp2_with fail
              go_ret
              exact ⟨rfl, HB.out.b.gr⟩

theorem walk_FlatAlike (x0 x1 x2 x3 : Int) (x4 : Nat) (y0 y1 y2 y3 : Int) (y4 : Nat) (v : Value) {w : World} (hx : CfgB x0 x1 x2 x3 x4) (hy : CfgB y0 y1 y2 y3 y4) (s : SlL w v) :
    Calls Tryz.prog 7 #[.agg #[.int .i64 x0, .int .i64 x1, .int .i64 x2, .int .i64 x3, .int .u64 (x4 : Int)], .agg #[.int .i64 y0, .int .i64 y1, .int .i64 y2, .int .i64 y3, .int .u64 (y4 : Int)], v] w fun e w' => e = .returned (.bool true) ∧ Below w.heap.size w w' :=
  (falike_law x0 x1 x2 x3 x4 y0 y1 y2 y3 y4 v hx.2.2.2.2 hy.2.2.2.2 s).mono fun _ _ q => ⟨q.1, q.2.below0⟩
end Go.Proofs.YtjbhallhmnahbaaGreat
