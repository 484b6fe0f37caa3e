/-
  Layer 16: InodeEqual.
-/
import Derived.Test.YtpkhfdcokcchdabInU
namespace Go.Proofs.Ytpkhfdcokcchdab
open Go.RowKit

theorem hc10 {W : World} {b c : Nat} {x0 x1 x2 x3 x4 y0 y1 y2 y3 y4 : Value} {T T' : TypeId} (h : Holds W b #[x0, x1, x2, x3, x4] T) (h' : Holds W c #[y0, y1, y2, y3, y4] T') : W.cell? ⟨b, 0, none⟩ = some x0 ∧ W.cell? ⟨b, 1, none⟩ = some x1 ∧ W.cell? ⟨b, 2, none⟩ = some x2 ∧ W.cell? ⟨b, 3, none⟩ = some x3 ∧ W.cell? ⟨b, 4, none⟩ = some x4 ∧ W.cell? ⟨c, 0, none⟩ = some y0 ∧ W.cell? ⟨c, 1, none⟩ = some y1 ∧ W.cell? ⟨c, 2, none⟩ = some y2 ∧ W.cell? ⟨c, 3, none⟩ = some y3 ∧ W.cell? ⟨c, 4, none⟩ = some y4 := ⟨h.cell 0, h.cell 1, h.cell 2, h.cell 3, h.cell 4, h'.cell 0, h'.cell 1, h'.cell 2, h'.cell 3, h'.cell 4⟩
theorem kA15 {W : World} {b c d : Nat} {x0 x1 x2 x3 x4 y0 y1 y2 y3 y4 z0 z1 z2 z3 z4 : Value} (h : W.cell? ⟨b, 0, none⟩ = some x0 ∧ W.cell? ⟨b, 1, none⟩ = some x1 ∧ W.cell? ⟨b, 2, none⟩ = some x2 ∧ W.cell? ⟨b, 3, none⟩ = some x3 ∧ W.cell? ⟨b, 4, none⟩ = some x4 ∧ W.cell? ⟨c, 0, none⟩ = some y0 ∧ W.cell? ⟨c, 1, none⟩ = some y1 ∧ W.cell? ⟨c, 2, none⟩ = some y2 ∧ W.cell? ⟨c, 3, none⟩ = some y3 ∧ W.cell? ⟨c, 4, none⟩ = some y4 ∧ W.cell? ⟨d, 0, none⟩ = some z0 ∧ W.cell? ⟨d, 1, none⟩ = some z1 ∧ W.cell? ⟨d, 2, none⟩ = some z2 ∧ W.cell? ⟨d, 3, none⟩ = some z3 ∧ W.cell? ⟨d, 4, none⟩ = some z4) : W.drew.cell? ⟨b, 0, none⟩ = some x0 ∧ W.drew.cell? ⟨b, 1, none⟩ = some x1 ∧ W.drew.cell? ⟨b, 2, none⟩ = some x2 ∧ W.drew.cell? ⟨b, 3, none⟩ = some x3 ∧ W.drew.cell? ⟨b, 4, none⟩ = some x4 ∧ W.drew.cell? ⟨c, 0, none⟩ = some y0 ∧ W.drew.cell? ⟨c, 1, none⟩ = some y1 ∧ W.drew.cell? ⟨c, 2, none⟩ = some y2 ∧ W.drew.cell? ⟨c, 3, none⟩ = some y3 ∧ W.drew.cell? ⟨c, 4, none⟩ = some y4 ∧ W.drew.cell? ⟨d, 0, none⟩ = some z0 ∧ W.drew.cell? ⟨d, 1, none⟩ = some z1 ∧ W.drew.cell? ⟨d, 2, none⟩ = some z2 ∧ W.drew.cell? ⟨d, 3, none⟩ = some z3 ∧ W.drew.cell? ⟨d, 4, none⟩ = some z4 := h
/-- Five cells of a block. -/
def C5 (W : World) (b : Nat) (cs : Array Value) : Prop := b < W.heap.size ∧ ∀ i, i < 5 → W.cell? ⟨b, i, none⟩ = cs[i]?
theorem C5.cell {W : World} {b : Nat} {cs : Array Value} (h : C5 W b cs) (i : Nat) (hi : i < 5 := by decide) : W.cell? ⟨b, i, none⟩ = cs[i]? := h.2 i hi
theorem C5.gr0 {W W' : World} {b : Nat} {cs : Array Value} (h : C5 W b cs) (g : Gr [] W W') : C5 W' b cs := ⟨Nat.lt_of_lt_of_le h.1 g.size, fun i hi => (g.cell0 h.1).trans (h.2 i hi)⟩
theorem C5.of {W : World} {b : Nat} {x0 x1 x2 x3 x4 : Value} (hb : b < W.heap.size) (h0 : W.cell? ⟨b, 0, none⟩ = some x0) (h1 : W.cell? ⟨b, 1, none⟩ = some x1) (h2 : W.cell? ⟨b, 2, none⟩ = some x2) (h3 : W.cell? ⟨b, 3, none⟩ = some x3) (h4 : W.cell? ⟨b, 4, none⟩ = some x4) : C5 W b #[x0, x1, x2, x3, x4] :=
  ⟨hb, fun i hi => by
    match i, hi with
    | 0, _ => exact h0
    | 1, _ => exact h1
    | 2, _ => exact h2
    | 3, _ => exact h3
    | 4, _ => exact h4⟩
theorem hc15 {W : World} {b c d : Nat} {x0 x1 x2 x3 x4 y0 y1 y2 y3 y4 z0 z1 z2 z3 z4 : Value} {T'' : TypeId} (h : C5 W b #[x0, x1, x2, x3, x4]) (h' : C5 W c #[y0, y1, y2, y3, y4]) (h'' : Holds W d #[z0, z1, z2, z3, z4] T'') : W.cell? ⟨b, 0, none⟩ = some x0 ∧ W.cell? ⟨b, 1, none⟩ = some x1 ∧ W.cell? ⟨b, 2, none⟩ = some x2 ∧ W.cell? ⟨b, 3, none⟩ = some x3 ∧ W.cell? ⟨b, 4, none⟩ = some x4 ∧ W.cell? ⟨c, 0, none⟩ = some y0 ∧ W.cell? ⟨c, 1, none⟩ = some y1 ∧ W.cell? ⟨c, 2, none⟩ = some y2 ∧ W.cell? ⟨c, 3, none⟩ = some y3 ∧ W.cell? ⟨c, 4, none⟩ = some y4 ∧ W.cell? ⟨d, 0, none⟩ = some z0 ∧ W.cell? ⟨d, 1, none⟩ = some z1 ∧ W.cell? ⟨d, 2, none⟩ = some z2 ∧ W.cell? ⟨d, 3, none⟩ = some z3 ∧ W.cell? ⟨d, 4, none⟩ = some z4 := ⟨h.cell 0, h.cell 1, h.cell 2, h.cell 3, h.cell 4, h'.cell 0, h'.cell 1, h'.cell 2, h'.cell 3, h'.cell 4, h''.cell 0, h''.cell 1, h''.cell 2, h''.cell 3, h''.cell 4⟩
theorem al1 {W w' : World} {cs : Array Value} {t : TypeId} (g : Gr [] (W.alloc (Obj.cells cs t)) w') : Holds w' W.heap.size cs t := (Holds.new W cs t).gr0 g
theorem al2 {W w' : World} {cs cs' : Array Value} {t t' : TypeId} (g : Gr [] ((W.alloc (Obj.cells cs t)).alloc (Obj.cells cs' t')) w') : Holds w' W.heap.size cs t ∧ Holds w' (W.heap.size + 1) cs' t' := by
  have h1 := ((Holds.new W cs t).alloc (Obj.cells cs' t')).gr0 g
  have h2 := (Holds.new (W.alloc (Obj.cells cs t)) cs' t').gr0 g
  rw [World.size_alloc] at h2
  exact ⟨h1, h2⟩
theorem arr2eq (x0 x1 y0 y1 : Int) (W : World) : (Op.equalIn 10000 46 (.agg #[.int .i64 x0, .int .i64 x1]) (.agg #[.int .i64 y0, .int .i64 y1])).run Try.prog W = .ok (x0 == y0 && x1 == y1) W := by
  have u3 := Try.underlying3
  have a3 := Try.isAgg3
  have z3 := Try.sizeOf3
  rw [show (10000 : Nat) = 9999 + 1 from rfl, Op.equalIn]
  simp only [Sem.run_bind, run_underlying Try.underlying46, Result.andThen_ok]
  simp only [Std.Legacy.Range.forIn_eq_forIn_range', Std.Legacy.Range.size, Nat.sub_zero, Nat.add_sub_cancel, Nat.div_one, List.range'_succ, List.range'_zero, List.forIn_cons, List.forIn_nil]
  by_cases h1 : x0 = y0 <;> by_cases h2 : x1 = y1 <;> go_simp <;> simp [h1, h2]
theorem sG {W W' : World} {b : Nat} {x0 x1 x2 x3 x4 y0 y1 y2 y3 y4 : Value} (h : b + 1 < W.heap.size ∧ W.cell? ⟨b, 0, none⟩ = some x0 ∧ W.cell? ⟨b, 1, none⟩ = some x1 ∧ W.cell? ⟨b, 2, none⟩ = some x2 ∧ W.cell? ⟨b, 3, none⟩ = some x3 ∧ W.cell? ⟨b, 4, none⟩ = some x4 ∧ W.cell? ⟨b + 1, 0, none⟩ = some y0 ∧ W.cell? ⟨b + 1, 1, none⟩ = some y1 ∧ W.cell? ⟨b + 1, 2, none⟩ = some y2 ∧ W.cell? ⟨b + 1, 3, none⟩ = some y3 ∧ W.cell? ⟨b + 1, 4, none⟩ = some y4) (g : Gr [] W W') : b + 1 < W'.heap.size ∧ W'.cell? ⟨b, 0, none⟩ = some x0 ∧ W'.cell? ⟨b, 1, none⟩ = some x1 ∧ W'.cell? ⟨b, 2, none⟩ = some x2 ∧ W'.cell? ⟨b, 3, none⟩ = some x3 ∧ W'.cell? ⟨b, 4, none⟩ = some x4 ∧ W'.cell? ⟨b + 1, 0, none⟩ = some y0 ∧ W'.cell? ⟨b + 1, 1, none⟩ = some y1 ∧ W'.cell? ⟨b + 1, 2, none⟩ = some y2 ∧ W'.cell? ⟨b + 1, 3, none⟩ = some y3 ∧ W'.cell? ⟨b + 1, 4, none⟩ = some y4 := by
  obtain ⟨h0, h1, h2, h3, h4, h5, h6, h7, h8, h9, h10⟩ := h
  have hb : b < W.heap.size := by omega
  exact ⟨Nat.lt_of_lt_of_le h0 g.size, (g.cell0 hb).trans h1, (g.cell0 hb).trans h2, (g.cell0 hb).trans h3, (g.cell0 hb).trans h4, (g.cell0 hb).trans h5, (g.cell0 h0).trans h6, (g.cell0 h0).trans h7, (g.cell0 h0).trans h8, (g.cell0 h0).trans h9, (g.cell0 h0).trans h10⟩
theorem sAl {W : World} {b : Nat} {x0 x1 x2 x3 x4 y0 y1 y2 y3 y4 : Value} (h : b + 1 < W.heap.size ∧ W.cell? ⟨b, 0, none⟩ = some x0 ∧ W.cell? ⟨b, 1, none⟩ = some x1 ∧ W.cell? ⟨b, 2, none⟩ = some x2 ∧ W.cell? ⟨b, 3, none⟩ = some x3 ∧ W.cell? ⟨b, 4, none⟩ = some x4 ∧ W.cell? ⟨b + 1, 0, none⟩ = some y0 ∧ W.cell? ⟨b + 1, 1, none⟩ = some y1 ∧ W.cell? ⟨b + 1, 2, none⟩ = some y2 ∧ W.cell? ⟨b + 1, 3, none⟩ = some y3 ∧ W.cell? ⟨b + 1, 4, none⟩ = some y4) (o : Obj) : b + 1 < (W.alloc o).heap.size ∧ (W.alloc o).cell? ⟨b, 0, none⟩ = some x0 ∧ (W.alloc o).cell? ⟨b, 1, none⟩ = some x1 ∧ (W.alloc o).cell? ⟨b, 2, none⟩ = some x2 ∧ (W.alloc o).cell? ⟨b, 3, none⟩ = some x3 ∧ (W.alloc o).cell? ⟨b, 4, none⟩ = some x4 ∧ (W.alloc o).cell? ⟨b + 1, 0, none⟩ = some y0 ∧ (W.alloc o).cell? ⟨b + 1, 1, none⟩ = some y1 ∧ (W.alloc o).cell? ⟨b + 1, 2, none⟩ = some y2 ∧ (W.alloc o).cell? ⟨b + 1, 3, none⟩ = some y3 ∧ (W.alloc o).cell? ⟨b + 1, 4, none⟩ = some y4 := sG h ((Gr.refl [] W).alloc o)
theorem sDr {W : World} {b : Nat} {x0 x1 x2 x3 x4 y0 y1 y2 y3 y4 : Value} (h : b + 1 < W.heap.size ∧ W.cell? ⟨b, 0, none⟩ = some x0 ∧ W.cell? ⟨b, 1, none⟩ = some x1 ∧ W.cell? ⟨b, 2, none⟩ = some x2 ∧ W.cell? ⟨b, 3, none⟩ = some x3 ∧ W.cell? ⟨b, 4, none⟩ = some x4 ∧ W.cell? ⟨b + 1, 0, none⟩ = some y0 ∧ W.cell? ⟨b + 1, 1, none⟩ = some y1 ∧ W.cell? ⟨b + 1, 2, none⟩ = some y2 ∧ W.cell? ⟨b + 1, 3, none⟩ = some y3 ∧ W.cell? ⟨b + 1, 4, none⟩ = some y4) : b + 1 < W.drew.heap.size ∧ W.drew.cell? ⟨b, 0, none⟩ = some x0 ∧ W.drew.cell? ⟨b, 1, none⟩ = some x1 ∧ W.drew.cell? ⟨b, 2, none⟩ = some x2 ∧ W.drew.cell? ⟨b, 3, none⟩ = some x3 ∧ W.drew.cell? ⟨b, 4, none⟩ = some x4 ∧ W.drew.cell? ⟨b + 1, 0, none⟩ = some y0 ∧ W.drew.cell? ⟨b + 1, 1, none⟩ = some y1 ∧ W.drew.cell? ⟨b + 1, 2, none⟩ = some y2 ∧ W.drew.cell? ⟨b + 1, 3, none⟩ = some y3 ∧ W.drew.cell? ⟨b + 1, 4, none⟩ = some y4 := sG h ((Gr.refl [] W).drew)
theorem sSt {W : World} {b : Nat} {x0 x1 x2 x3 x4 y0 y1 y2 y3 y4 : Value} (h : b + 1 < W.heap.size ∧ W.cell? ⟨b, 0, none⟩ = some x0 ∧ W.cell? ⟨b, 1, none⟩ = some x1 ∧ W.cell? ⟨b, 2, none⟩ = some x2 ∧ W.cell? ⟨b, 3, none⟩ = some x3 ∧ W.cell? ⟨b, 4, none⟩ = some x4 ∧ W.cell? ⟨b + 1, 0, none⟩ = some y0 ∧ W.cell? ⟨b + 1, 1, none⟩ = some y1 ∧ W.cell? ⟨b + 1, 2, none⟩ = some y2 ∧ W.cell? ⟨b + 1, 3, none⟩ = some y3 ∧ W.cell? ⟨b + 1, 4, none⟩ = some y4) {p : Addr} (hp : b + 1 < p.block) (v : Value) : b + 1 < (W.setCell p v).heap.size ∧ (W.setCell p v).cell? ⟨b, 0, none⟩ = some x0 ∧ (W.setCell p v).cell? ⟨b, 1, none⟩ = some x1 ∧ (W.setCell p v).cell? ⟨b, 2, none⟩ = some x2 ∧ (W.setCell p v).cell? ⟨b, 3, none⟩ = some x3 ∧ (W.setCell p v).cell? ⟨b, 4, none⟩ = some x4 ∧ (W.setCell p v).cell? ⟨b + 1, 0, none⟩ = some y0 ∧ (W.setCell p v).cell? ⟨b + 1, 1, none⟩ = some y1 ∧ (W.setCell p v).cell? ⟨b + 1, 2, none⟩ = some y2 ∧ (W.setCell p v).cell? ⟨b + 1, 3, none⟩ = some y3 ∧ (W.setCell p v).cell? ⟨b + 1, 4, none⟩ = some y4 := by
  obtain ⟨h0, h1, h2, h3, h4, h5, h6, h7, h8, h9, h10⟩ := h
  have key : ∀ c i x, c ≤ b + 1 → W.cell? ⟨c, i, none⟩ = some x → (W.setCell p v).cell? ⟨c, i, none⟩ = some x := fun c i x hc e => (World.cell?_setCell_far W p ⟨c, i, none⟩ v (fun q => by simp only at q; omega)).trans e
  exact ⟨by rw [World.size_setCell]; exact h0, key _ _ _ (by omega) h1, key _ _ _ (by omega) h2, key _ _ _ (by omega) h3, key _ _ _ (by omega) h4, key _ _ _ (by omega) h5, key _ _ _ (by omega) h6, key _ _ _ (by omega) h7, key _ _ _ (by omega) h8, key _ _ _ (by omega) h9, key _ _ _ (by omega) h10⟩
theorem cf5 {W : World} {b : Nat} {x0 x1 x2 x3 x4 : Value} {T : TypeId} (h : Holds W b #[x0, x1, x2, x3, x4] T) : W.cell? ⟨b, 0, none⟩ = some x0 ∧ W.cell? ⟨b, 1, none⟩ = some x1 ∧ W.cell? ⟨b, 2, none⟩ = some x2 ∧ W.cell? ⟨b, 3, none⟩ = some x3 ∧ W.cell? ⟨b, 4, none⟩ = some x4 ∧ W.frozen? ⟨b, 0, none⟩ = false ∧ W.frozen? ⟨b, 1, none⟩ = false ∧ W.frozen? ⟨b, 2, none⟩ = false ∧ W.frozen? ⟨b, 3, none⟩ = false ∧ W.frozen? ⟨b, 4, none⟩ = false ∧ b < W.heap.size ∧ W.heap.size ≠ b ∧ b ≠ W.heap.size :=
  ⟨h.cell 0, h.cell 1, h.cell 2, h.cell 3, h.cell 4, h.frozen 0, h.frozen 1, h.frozen 2, h.frozen 3, h.frozen 4, h.lt, Nat.ne_of_gt h.lt, Nat.ne_of_lt h.lt⟩
theorem al1d {W w' : World} {cs : Array Value} {t : TypeId} (g : Gr [] (W.alloc (Obj.cells cs t)).drew w') : Holds w' W.heap.size cs t := al1 ((Gr.refl [] _).drew.next0 g)
theorem al2d {W w' : World} {cs cs' : Array Value} {t t' : TypeId} (g : Gr [] ((W.alloc (Obj.cells cs t)).alloc (Obj.cells cs' t')).drew w') : Holds w' W.heap.size cs t ∧ Holds w' (W.heap.size + 1) cs' t' := al2 ((Gr.refl [] _).drew.next0 g)
theorem C5.ofH {W : World} {b : Nat} {x0 x1 x2 x3 x4 : Value} {T : TypeId} (h : Holds W b #[x0, x1, x2, x3, x4] T) : C5 W b #[x0, x1, x2, x3, x4] := ⟨h.lt, fun i _ => h.cell i⟩
theorem newB {W : World} {b : Nat} {cs : Array Value} {t : TypeId} (h : b = W.heap.size) : Holds (W.alloc (.cells cs t)) b cs t := by
  subst h
  exact Holds.new W cs t
theorem farB {W : World} {b : Nat} {cs : Array Value} {t : TypeId} {a : Addr} {u : Value} (hn : b ≠ a.block) (h : Holds W b cs t) : Holds (W.setCell a u) b cs t := h.far hn u
theorem alB {W : World} {b : Nat} {cs : Array Value} {t : TypeId} {o : Obj} (h : Holds W b cs t) : Holds (W.alloc o) b cs t := h.alloc o
theorem grS {w W : World} {p : Addr} {v : Value} (hp : w.heap.size ≤ p.block) (h : Gr [] w W) : Gr [] w (W.setCell p v) := h.setCell (.inr hp) v
set_option maxHeartbeats 16000000 in
set_option maxRecDepth 100000 in
theorem iequal_law (k : Nat) (l s : Int) (bl : List (Int × Int)) (t : ByteArray) (N : Nat) (ao : Option Addr) (cV : Nat) (k' : Nat) (l' s' : Int) (bl' : List (Int × Int)) (t' : ByteArray) (N' : Nat) (ao' : Option Addr) (cV' : Nat) (w : World) (hv : Sl2 w (.slice ao N cV) bl) (hv' : Sl2 w (.slice ao' N' cV') bl') (ht : t.size ≤ maxLen) (ht' : t'.size ≤ maxLen) (_hl : -9223372036854775808 ≤ l ∧ l ≤ 9223372036854775807) :
    Calls Try.prog 5 #[.agg #[.int .u8 k, .int .i64 l, .int .i64 s, .slice ao N cV, .string t], .agg #[.int .u8 k', .int .i64 l', .int .i64 s', .slice ao' N' cV', .string t']] w fun e w' => e = .returned (.bool true) ∧ Gr [] w w' := by
  obtain ⟨M, hM⟩ : ∃ M, M = min N 70 := ⟨_, rfl⟩
  obtain ⟨U, hU⟩ : ∃ U, U = t.extract 0 (min t.size 300) := ⟨_, rfl⟩
  obtain ⟨cl, hcl⟩ : ∃ cl, cl = bl.take 70 := ⟨_, rfl⟩
  obtain ⟨M', hM'⟩ : ∃ M, M = min N' 70 := ⟨_, rfl⟩
  obtain ⟨U', hU'⟩ : ∃ U, U = t'.extract 0 (min t'.size 300) := ⟨_, rfl⟩
  obtain ⟨cl', hcl'⟩ : ∃ cl, cl = bl'.take 70 := ⟨_, rfl⟩
  have g2 := ((Gr.refl [] w).alloc (Obj.cells #[.int .u8 k, .int .i64 l, .int .i64 s, .slice ao N cV, .string t] 24)).alloc (Obj.cells #[.int .u8 k', .int .i64 l', .int .i64 s', .slice ao' N' cV', .string t'] 24)
  have HG := Lib.hid g2
  have HA := Lib.hid ((Holds.new w #[.int .u8 k, .int .i64 l, .int .i64 s, .slice ao N cV, .string t] 24).alloc (Obj.cells #[.int .u8 k', .int .i64 l', .int .i64 s', .slice ao' N' cV', .string t'] 24))
  have hb := Holds.new (w.alloc (Obj.cells #[.int .u8 k, .int .i64 l, .int .i64 s, .slice ao N cV, .string t] 24)) #[.int .u8 k', .int .i64 l', .int .i64 s', .slice ao' N' cV', .string t'] 24
  rw [World.size_alloc] at hb
  have HB := Lib.hid hb
  have HS := Lib.hid (And.intro (hv.gr0 g2) (hv'.gr0 g2))
  have HCT := Lib.hid (fun (W : World) (hW : Sl2 W (.slice ao N cV) bl) => (show Calls Try.prog 11 #[.agg #[.int .u8 k, .int .i64 l, .int .i64 s, .slice ao N cV, .string t]] W fun e w' => e = .returned (.agg #[.int .u8 k, .int .i64 l, .int .i64 s, .slice ao M cV, .string U]) ∧ Sl2 w' (.slice ao M cV) cl ∧ Gr [] W w' from by
    have q := ecut16_any k l s bl t N ao cV W hW ht
    rw [← hM, ← hU] at q
    have r := sl2_take hW 70
    rw [← hM, ← hcl] at r
    exact q.mono fun e w' z => ⟨z.1, r.gr0 z.2, z.2⟩))
  have HCU := Lib.hid (fun (W : World) (hW : Sl2 W (.slice ao' N' cV') bl') => (show Calls Try.prog 11 #[.agg #[.int .u8 k', .int .i64 l', .int .i64 s', .slice ao' N' cV', .string t']] W fun e w' => e = .returned (.agg #[.int .u8 k', .int .i64 l', .int .i64 s', .slice ao' M' cV', .string U']) ∧ Sl2 w' (.slice ao' M' cV') cl' ∧ Gr [] W w' from by
    have q := ecut16_any k' l' s' bl' t' N' ao' cV' W hW ht'
    rw [← hM', ← hU'] at q
    have r := sl2_take hW 70
    rw [← hM', ← hcl'] at r
    exact q.mono fun e w' z => ⟨z.1, r.gr0 z.2, z.2⟩))
  have HSC := Lib.hid (show Sl2 _ (.slice ao M cV) cl ∧ Sl2 _ (.slice ao' M' cV') cl' from by
    have q1 := sl2_take HS.out.1 70
    have q2 := sl2_take HS.out.2 70
    rw [← hM, ← hcl] at q1
    rw [← hM', ← hcl'] at q2
    exact ⟨q1, q2⟩)
  have HML := Lib.hid (show M ≤ 70 ∧ M' ≤ 70 by omega)
  clear hv hv' hM hU hcl hM' hU' hcl' hb g2
  go_enter Try.func5, Try.ntmps5
  go_wp2_with fail
  generalize (w.alloc (Obj.cells #[.int .u8 k, .int .i64 l, .int .i64 s, .slice ao N cV, .string t] 24)).alloc (Obj.cells #[.int .u8 k', .int .i64 l', .int .i64 s', .slice ao' N' cV', .string t'] 24) = w0 at *
  obtain ⟨b, hb⟩ : ∃ b, w.heap.size = b := ⟨_, rfl⟩
  rw [hb] at HA HB ⊢
  clear hb
  go_cut [5, 6] (fun v5 v6 wz => ∃ b5 b6 : Nat, v5 = .pointer (some ⟨b5, 0, none⟩) ∧ v6 = .pointer (some ⟨b6, 0, none⟩) ∧ C5 wz b5 #[.int .u8 k, .int .i64 l, .int .i64 s, .slice ao M cV, .string U] ∧ C5 wz b6 #[.int .u8 k', .int .i64 l', .int .i64 s', .slice ao' M' cV', .string U'] ∧ Gr [] w0 wz)
  case first =>
    have hb0 : b + 1 < w0.heap.size := HB.out.lt
    have s0 : b + 1 < w0.heap.size ∧ _ := And.intro HB.out.lt (hc10 HA.out HB.out)
    go_region_held3 (fun w' : World => b + 1 < w'.heap.size ∧ w'.cell? ⟨b, 0, none⟩ = some (.int .u8 k) ∧ w'.cell? ⟨b, 1, none⟩ = some (.int .i64 l) ∧ w'.cell? ⟨b, 2, none⟩ = some (.int .i64 s) ∧ w'.cell? ⟨b, 3, none⟩ = some (.slice ao N cV) ∧ w'.cell? ⟨b, 4, none⟩ = some (.string t) ∧ w'.cell? ⟨b + 1, 0, none⟩ = some (.int .u8 k') ∧ w'.cell? ⟨b + 1, 1, none⟩ = some (.int .i64 l') ∧ w'.cell? ⟨b + 1, 2, none⟩ = some (.int .i64 s') ∧ w'.cell? ⟨b + 1, 3, none⟩ = some (.slice ao' N' cV') ∧ w'.cell? ⟨b + 1, 4, none⟩ = some (.string t')) (with_reducible (first | assumption | exact sAl (by assumption) _ | (repeat (first | assumption | refine sAl ?_ _ | refine sSt ?_ (by simp only; omega) _ | refine sDr ?_)))) ((first
      | (go_at_call 11; (with_reducible refine Calls.mono (HCU.out _ ?_) ?_); (refine HC5.out.1.gr0 ?_; (repeat (with_reducible first | exact Gr.refl _ _ | refine Gr.alloc ?_ _ | refine Gr.drew ?_))); rintro r w6 ⟨rfl, -, g6⟩; (have G6 : Gr [] w5 w6 := (by refine Gr.next0 ?_ g6; (repeat (with_reducible first | exact Gr.refl _ _ | refine Gr.alloc ?_ _ | refine Gr.drew ?_)))); have GK6 := HC5.out.2.next0 G6; (first | (with_reducible have zz6 := And.intro (zz.1.gr0 G6) (zz.2.gr0 G6)) | (with_reducible have zz6 := zz.gr0 G6) | have zz6 := True.intro); (first | (with_reducible have yy := al2 g6) | (with_reducible have yy := al2d g6) | (with_reducible have yy := al1 g6) | (with_reducible have yy := al1d g6) | have yy := True.intro); (first | (with_reducible obtain ⟨za, zb⟩ := zz6; have ka := cf5 za; have kb := cf5 zb; have kc := fun (o : Obj) => cf5 (za.alloc o); have kd := fun (o : Obj) => cf5 (zb.alloc o); have lta := za.lt; have ltb := zb.lt) | (with_reducible have ka := cf5 zz6; have kc := fun (o : Obj) => cf5 (zz6.alloc o); have ltz6 := zz6.lt; have ltz := zz.lt) | skip); (first | (with_reducible obtain ⟨ya, yb⟩ := yy; have la := cf5 ya; have lb := cf5 yb; have lc := fun (o : Obj) => cf5 (ya.alloc o); have ld := fun (o : Obj) => cf5 (yb.alloc o); have ltya := ya.lt; have ltyb := yb.lt) | (with_reducible have la := cf5 yy; have lc := fun (o : Obj) => cf5 (yy.alloc o); have lty := yy.lt) | skip); have s6 := sG s5 G6; have sz6 := GK6.size; have sz5 := G6.size; clear g6)
      | (go_at_call 11; (with_reducible refine Calls.mono (HCT.out _ ?_) ?_); (refine HS.out.1.gr0 ?_; (repeat (with_reducible first | exact Gr.refl _ _ | refine Gr.alloc ?_ _ | refine Gr.drew ?_))); rintro r w5 ⟨rfl, -, g5⟩; (have G5 : Gr [] w0 w5 := (by refine Gr.next0 ?_ g5; (repeat (with_reducible first | exact Gr.refl _ _ | refine Gr.alloc ?_ _ | refine Gr.drew ?_)))); have HC5 := Lib.hid (And.intro (HS.out.2.gr0 G5) G5); (first | (with_reducible have zz := al2 g5) | (with_reducible have zz := al2d g5) | (with_reducible have zz := al1 g5) | (with_reducible have zz := al1d g5) | have zz := True.intro); have s5 := sG s0 G5; have sz0 := G5.size; clear g5)))
    all_goals
      go_wp2_with fail
      go_meet
      refine ⟨_, _, rfl, rfl, C5.ofH (T := 24) ?_, C5.ofH (T := 24) ?_, ?_⟩
      all_goals repeat (first
        | (with_reducible assumption)
        | (with_reducible refine Holds.drew ?_)
        | (with_reducible refine newB ?_; (first | rfl | (simp only [World.size_setCell, World.size_alloc, World.size_drew]; done)))
        | (with_reducible refine holds5 (a0 := .int .u8 0) (a1 := .int .i64 0) (a2 := .int .i64 0) (a3 := .slice none 0 0) (a4 := .string ⟨#[]⟩) ?_)
        | (with_reducible refine alB ?_)
        | (with_reducible refine farB ?_ ?_; (simp only [World.size_setCell, World.size_alloc, World.size_drew]; omega))
        | (with_reducible refine Gr.alloc ?_ _)
        | (with_reducible refine Gr.drew ?_)
        | (with_reducible refine grS ?_ ?_; (simp only [World.size_setCell, World.size_alloc, World.size_drew]; omega)))
      all_goals fail "LEFT"
  case rest =>
    obtain ⟨b5, b6, rfl, rfl, h5, h6, gz⟩ := hcut
    have sc := HSC.out.1.gr0 gz
    have sc' := HSC.out.2.gr0 gz
    have HP := Lib.hid (And.intro h5 (And.intro h6 (And.intro sc (And.intro sc' (HG.out.next0 gz)))))
    clear h5 h6 sc sc' gz HCT HCU HS HA HB
    have x0 := HP.out.1.cell 0
    have x1 := HP.out.1.cell 1
    have x2 := HP.out.1.cell 2
    have x3 := HP.out.1.cell 3
    have x4 := HP.out.1.cell 4
    have y0 := HP.out.2.1.cell 0
    have y1 := HP.out.2.1.cell 1
    have y2 := HP.out.2.1.cell 2
    have y3 := HP.out.2.1.cell 3
    have y4 := HP.out.2.1.cell 4
    go_upto_region 2 with fail
    go_cut [7] (fun v wz => wz = wc ∧ ∃ r : Bool, (r = true ↔ (k = k' ∧ l = l' ∧ s = s' ∧ U = U' ∧ M = M')) ∧ v = .bool r)
    case first =>
      have no : ∀ {P : Prop}, ¬ P → (false = true ↔ P) := fun h => ⟨fun e => (by cases e), fun e => absurd e h⟩
      have fin : ∀ (r : Bool) (v : Value), (r = true ↔ (k = k' ∧ l = l' ∧ s = s' ∧ U = U' ∧ M = M')) → v = .bool r → ∃ r : Bool, (r = true ↔ (k = k' ∧ l = l' ∧ s = s' ∧ U = U' ∧ M = M')) ∧ v = .bool r := fun r v h e => ⟨r, h, e⟩
      have FIN := Lib.hid fin
      clear fin
      by_cases h1 : k = k'
      · subst h1
        by_cases h2 : l = l'
        · subst h2
          by_cases h3 : s = s'
          · subst h3
            by_cases h4 : U = U'
            · subst h4
              by_cases h5 : M = M'
              · subst h5
                go_wp2_with fail
                go_meet
                exact ⟨rfl, FIN.out true _ (by simp) rfl⟩
              · have HN := Lib.hid h5
                have hq : ((M : Int) == (M' : Int)) = false := by simp; omega
                clear h5
                go_wp2_with fail
                go_meet
                exact ⟨rfl, FIN.out false _ (no (fun q => HN.out q.2.2.2.2)) rfl⟩
            · have HN := Lib.hid h4
              have hq := beq_ne h4
              clear h4
              go_wp2_with fail
              go_meet
              exact ⟨rfl, FIN.out false _ (no (fun q => HN.out q.2.2.2.1)) rfl⟩
          · have HN := Lib.hid h3
            have hq : (s == s') = false := by simpa using h3
            clear h3
            go_wp2_with fail
            go_meet
            exact ⟨rfl, FIN.out false _ (no (fun q => HN.out q.2.2.1)) rfl⟩
        · have HN := Lib.hid h2
          have hq : (l == l') = false := by simpa using h2
          clear h2
          go_wp2_with fail
          go_meet
          exact ⟨rfl, FIN.out false _ (no (fun q => HN.out q.2.1)) rfl⟩
      · have HN := Lib.hid h1
        have hq : ((k : Int) == (k' : Int)) = false := by simp; omega
        clear h1
        go_wp2_with fail
        go_meet
        exact ⟨rfl, FIN.out false _ (no (fun q => HN.out q.1)) rfl⟩
    case rest =>
      obtain ⟨rfl, r, hr, rfl⟩ := hcut
      have HRR := Lib.hid hr
      clear hr
      have hM70 : M ≤ 70 := HML.out.1
      have hM70' : M' ≤ 70 := HML.out.2
      have HLN := Lib.hid (And.intro (sl2_parts HP.out.2.2.1).1 (sl2_parts HP.out.2.2.2.1).1)
      have heq := arr2eq
      have hgr := fun (W : World) (op : BinOp) (x y : Operand) (xs ys : Array Value) => run_eqGuard_agg (P := Try.prog) (w := W) op 46 x y xs ys (by kernel_rfl)
      clear x0 x1 x2 x3 x4 y0 y1 y2 y3 y4
      have x0 := HP.out.1.cell 0
      have x3 := HP.out.1.cell 3
      go_wp2_with fail
      clear x0 x3
      go_loopw [7, 52] (fun v i wr => ∃ (j : Nat) (r : Bool), j ≤ M ∧ i = .int .i64 j ∧ v = .bool r ∧ Hid (r = true ↔ ((k = k' ∧ l = l' ∧ s = s' ∧ U = U' ∧ M = M') ∧ ∀ q, q < j → cl[q]? = cl'[q]?)) ∧ Gr [] wc wr) (fun _ i _ => M - (intOf i).toNat)
      case atStart => exact ⟨0, r, by omega, rfl, rfl, Lib.hid (by rw [HRR.out]; exact ⟨fun h => ⟨h, fun q hq => by omega⟩, fun h => h.1⟩), Gr.refl _ _⟩
      case round =>
        obtain ⟨j, r2, hj, rfl, rfl, HE, G⟩ := hrel
        have HGr := Lib.hid G
        by_cases hjM : j < M
        · have hjM2 : (j : Int) < (M : Int) := by omega
          have x0 := (HP.out.1.gr0 G).cell 0
          have x3 := (HP.out.1.gr0 G).cell 3
          have y0 := (HP.out.2.1.gr0 G).cell 0
          have y3 := (HP.out.2.1.gr0 G).cell 3
          cases r2 with
          | false =>
            have HN := Lib.hid (show (false = true ↔ ((k = k' ∧ l = l' ∧ s = s' ∧ U = U' ∧ M = M') ∧ ∀ q, q < j + 1 → cl[q]? = cl'[q]?)) from ⟨fun e => (by cases e), fun h => HE.out.2 ⟨h.1, fun q hq => h.2 q (by omega)⟩⟩)
            clear G
            go_wp2_with fail
            go_quiet (fail)
            go_wp2_with fail
            go_roundw
            case rel => exact ⟨j + 1, false, by omega, by go_num, rfl, HN, HGr.out.drewN _⟩
            case measure => simp [intOf]; omega
          | true =>
            have hE0 := HE.out.1 rfl
            have hMM : M = M' := hE0.1.2.2.2.2
            have hjM' : j < M' := by omega
            have hjMi' : (j : Int) < (M' : Int) := by omega
            obtain ⟨⟨e1, e2⟩, he⟩ : ∃ e, cl[j]? = some e := ⟨_, List.getElem?_eq_getElem (by have := HLN.out.1; omega)⟩
            obtain ⟨⟨d1, d2⟩, hd⟩ : ∃ e, cl'[j]? = some e := ⟨_, List.getElem?_eq_getElem (by have := HLN.out.2; omega)⟩
            obtain ⟨k1, o1, ha1, hk1, c1, c2⟩ := (sl2_parts HP.out.2.2.1).2.1 j _ he
            obtain ⟨k2, o2, ha2, hk2, c3, c4⟩ := (sl2_parts HP.out.2.2.2.1).2.1 j _ hd
            subst ha1 ha2
            have t0 : wr.cell? ⟨k1, o1 + j * 2, none⟩ = some (.int .i64 e1) := (G.cell0 hk1).trans c1
            have t1 : wr.cell? ⟨k1, o1 + j * 2 + 1, none⟩ = some (.int .i64 e2) := (G.cell0 hk1).trans c2
            have t2 : wr.cell? ⟨k2, o2 + j * 2, none⟩ = some (.int .i64 d1) := (G.cell0 hk2).trans c3
            have t3 : wr.cell? ⟨k2, o2 + j * 2 + 1, none⟩ = some (.int .i64 d2) := (G.cell0 hk2).trans c4
            have HEE := Lib.hid hE0
            clear c1 c2 c3 c4 G hk1 hk2 hE0 hMM
            by_cases hq : e1 = d1 ∧ e2 = d2
            · obtain ⟨q1, q2⟩ := hq
              subst q1 q2
              have HN := Lib.hid (show (true = true ↔ ((k = k' ∧ l = l' ∧ s = s' ∧ U = U' ∧ M = M') ∧ ∀ q, q < j + 1 → cl[q]? = cl'[q]?)) from ⟨fun _ => ⟨HEE.out.1, fun q hq => by
                by_cases e : q = j
                · subst e; rw [he, hd]
                · exact HEE.out.2 q (by omega)⟩, fun _ => rfl⟩)
              clear he hd
              go_wp2_with fail
              go_quiet (fail)
              go_wp2_with fail
              go_roundw
              case rel => exact ⟨j + 1, true, by omega, by go_num, rfl, Lib.hid (by have := HN.out; simpa using this), HGr.out.drewN _⟩
              case measure => simp [intOf]; omega
            · have hqd : (e1 == d1 && e2 == d2) = false := by
                by_cases p1 : e1 = d1
                · have p2 : e2 ≠ d2 := fun e => hq ⟨p1, e⟩
                  simp [p2]
                · simp [p1]
              have HN := Lib.hid (show (false = true ↔ ((k = k' ∧ l = l' ∧ s = s' ∧ U = U' ∧ M = M') ∧ ∀ q, q < j + 1 → cl[q]? = cl'[q]?)) from ⟨fun e => (by cases e), fun h => absurd (h.2 j (by omega)) (fun e => hq (by rw [he, hd] at e; injection e with e; injection e with p q; exact ⟨p, q⟩))⟩)
              clear he hd hq
              go_wp2_with fail
              go_quiet (fail)
              go_wp2_with fail
              go_roundw
              case rel => exact ⟨j + 1, false, by omega, by go_num, rfl, HN, HGr.out.drewN _⟩
              case measure => simp [intOf]; omega
        · have hjE : j = M := by omega
          have HEQ := Lib.hid (show r2 = true ↔ (k = k' ∧ l = l' ∧ s = s' ∧ cl = cl' ∧ U = U') from ⟨fun h => by
              have q := HE.out.1 h
              have q5 := q.1.2.2.2.2
              refine ⟨q.1.1, q.1.2.1, q.1.2.2.1, List.ext_getElem? fun i => ?_, q.1.2.2.2.1⟩
              by_cases hi : i < j
              · exact q.2 i hi
              · rw [List.getElem?_eq_none (by have := HLN.out.1; omega), List.getElem?_eq_none (by have := HLN.out.2; omega)],
            fun h => HE.out.2 ⟨⟨h.1, h.2.1, h.2.2.1, h.2.2.2.2, by have a := HLN.out.1; have b := HLN.out.2; rw [h.2.2.2.1] at a; omega⟩, fun q _ => by rw [h.2.2.2.1]⟩⟩)
          have HPr := Lib.hid (And.intro (HP.out.1.gr0 G) (And.intro (HP.out.2.1.gr0 G) (And.intro (HP.out.2.2.1.gr0 G) (And.intro (HP.out.2.2.2.1.gr0 G) (HP.out.2.2.2.2.next0 G)))))
          clear HE G HRR HP
          have x0 := HPr.out.1.cell 0
          have x1 := HPr.out.1.cell 1
          have x2 := HPr.out.1.cell 2
          have x3 := HPr.out.1.cell 3
          have x4 := HPr.out.1.cell 4
          have HO := Lib.hid (eof_any k l s cl U M ao cV wr HPr.out.2.2.1 (by omega))
          go_wp2_with fail
          with_reducible refine HO.out.mono ?_
          rintro e w2 ⟨a2, c2, rfl, sb2, g2⟩
          obtain ⟨l2, hl2⟩ : ∃ l2, l2 = IntKind.i64.wrap (l + 1) := ⟨_, rfl⟩
          have HL2 := Lib.hid (show ¬ l = l2 by
            rw [hl2, IntKind.wrap_i64]
            omega)
          have hl2w : IntKind.i64.wrap (l + 1) = l2 := hl2.symm
          clear hl2
          have gA := (Gr.refl [] w2).alloc (Obj.cells #[.int .u8 k, .int .i64 l2, .int .i64 s, .slice a2 M c2, .string U] 31)
          have HP2 := Lib.hid (And.intro ((HPr.out.1.gr0 g2).gr0 gA) (And.intro ((HPr.out.2.1.gr0 g2).gr0 gA) (And.intro ((HPr.out.2.2.1.gr0 g2).gr0 gA) (And.intro ((HPr.out.2.2.2.1.gr0 g2).gr0 gA) ((HPr.out.2.2.2.2.next0 g2).next0 gA)))))
          have H9 := Lib.hid (Holds.new w2 #[.int .u8 k, .int .i64 l2, .int .i64 s, .slice a2 M c2, .string U] 31)
          have HSB := Lib.hid (sb2.gr0 gA)
          clear x0 x1 x2 x3 x4 g2 gA sb2 HO HPr
          go_upto_region 10 with fail
          generalize w2.alloc (Obj.cells #[.int .u8 k, .int .i64 l2, .int .i64 s, .slice a2 M c2, .string U] 31) = w3 at *
          generalize w2.heap.size = b9 at *
          have HS15 := Lib.hid (fun (W : World) (G : Gr [] w3 W) => hc15 (HP2.out.1.gr0 G) (HP2.out.2.1.gr0 G) (H9.out.gr0 G))
          have s0 := HS15.out _ (Gr.refl [] w3)
          have s0d := kA15 s0
          go_region_held3 (fun w' : World => w'.cell? ⟨b5, 0, none⟩ = some (.int .u8 k) ∧ w'.cell? ⟨b5, 1, none⟩ = some (.int .i64 l) ∧ w'.cell? ⟨b5, 2, none⟩ = some (.int .i64 s) ∧ w'.cell? ⟨b5, 3, none⟩ = some (.slice ao M cV) ∧ w'.cell? ⟨b5, 4, none⟩ = some (.string U) ∧ w'.cell? ⟨b6, 0, none⟩ = some (.int .u8 k') ∧ w'.cell? ⟨b6, 1, none⟩ = some (.int .i64 l') ∧ w'.cell? ⟨b6, 2, none⟩ = some (.int .i64 s') ∧ w'.cell? ⟨b6, 3, none⟩ = some (.slice ao' M' cV') ∧ w'.cell? ⟨b6, 4, none⟩ = some (.string U') ∧ w'.cell? ⟨b9, 0, none⟩ = some (.int .u8 k) ∧ w'.cell? ⟨b9, 1, none⟩ = some (.int .i64 l2) ∧ w'.cell? ⟨b9, 2, none⟩ = some (.int .i64 s) ∧ w'.cell? ⟨b9, 3, none⟩ = some (.slice a2 M c2) ∧ w'.cell? ⟨b9, 4, none⟩ = some (.string U)) (with_reducible (first | assumption | exact kA15 (by assumption))) ((first
            | (go_at_call 22; (with_reducible refine Calls.mono (iequal_dec k l s cl U k l2 s cl U M M p11 a2 q11 c2 _ ?_ ?_ ?_ ?_ ?_) ?_); exact (sl2_parts HE11.out).2.1; exact (sl2_parts (HSB.out.gr0 GK11)).2.1; exact HLN.out.1; exact HLN.out.1; exact (by omega); rintro r w12 ⟨⟨r6, hr6, rfl⟩, g12⟩; (have hf : r6 = false := by (cases r6 with | false => rfl | true => exact absurd (hr6.1 rfl).2.1 HL2.out)); subst hf; have GG12 : Gr [] w11 w12 := ⟨g12.os, g12.tape, g12.output, g12.size, g12.block⟩; have GK12 := GK11.next0 GG12; have s12 := HS15.out _ GK12; clear g12; clear hr6)
            | (go_at_call 22; (with_reducible refine Calls.mono (iequal_dec k l s cl U k l s cl U M M p8 p9 q8 q9 _ ?_ ?_ ?_ ?_ ?_) ?_); exact (sl2_parts HE9.out.2).2.1; exact (sl2_parts HE9.out.1).2.1; exact HLN.out.1; exact HLN.out.1; exact (by omega); rintro r w10 ⟨⟨r5, hr5, rfl⟩, g10⟩; obtain rfl := hr5.2 ⟨rfl, rfl, rfl, rfl, rfl⟩; have GG10 : Gr [] w9 w10 := ⟨g10.os, g10.tape, g10.output, g10.size, g10.block⟩; have GK10 := GK9.next0 GG10; have s10 := HS15.out _ GK10; clear g10; clear hr5)
            | (go_at_call 22; (with_reducible refine Calls.mono (iequal_dec k l s cl U k' l' s' cl' U' M M' p5 p6 q5 q6 _ ?_ ?_ ?_ ?_ ?_) ?_); exact (sl2_parts HE6.out.2).2.1; exact (sl2_parts HE6.out.1).2.1; exact HLN.out.1; exact HLN.out.2; exact (by omega); rintro r w7 ⟨⟨r3, hr3, rfl⟩, g7⟩; obtain rfl : r2 = r3 := (Bool.eq_iff_iff.2 (hr3.trans HEQ.out.symm)).symm; have GG7 : Gr [] w6 w7 := ⟨g7.os, g7.tape, g7.output, g7.size, g7.block⟩; have GK7 := GK6.next0 GG7; have s7 := HS15.out _ GK7; clear g7; clear hr3)
            | (go_at_call 13; (with_reducible refine Calls.mono (eof_any k l s cl U M ao cV _ ?_ ?_) ?_); exact (HP2.out.2.2.1.gr0 GK10); exact (by omega); rintro r w11 ⟨p11, q11, rfl, e11, g11⟩; have GG11 : Gr [] w10 w11 := ⟨g11.os, g11.tape, g11.output, g11.size, g11.block⟩; have HE11 := Lib.hid e11; have GK11 := GK10.next0 GG11; have s11 := HS15.out _ GK11; clear g11; clear e11)
            | (go_at_call 13; (with_reducible refine Calls.mono (eof_any k l s cl U M ao cV _ ?_ ?_) ?_); exact (HP2.out.2.2.1.gr0 GK8); exact (by omega); rintro r w9 ⟨p9, q9, rfl, e9, g9⟩; have GG9 : Gr [] w8 w9 := ⟨g9.os, g9.tape, g9.output, g9.size, g9.block⟩; have HE9 := Lib.hid (And.intro e9 (HE8.out.gr0 GG9)); have GK9 := GK8.next0 GG9; have s9 := HS15.out _ GK9; clear g9; clear e9)
            | (go_at_call 13; (with_reducible refine Calls.mono (eof_any k l s cl U M ao cV _ ?_ ?_) ?_); exact (HP2.out.2.2.1.gr0 GK7); exact (by omega); rintro r w8 ⟨p8, q8, rfl, e8, g8⟩; have GG8 : Gr [] w7 w8 := ⟨g8.os, g8.tape, g8.output, g8.size, g8.block⟩; have HE8 := Lib.hid e8; have GK8 := GK7.next0 GG8; have s8 := HS15.out _ GK8; clear g8; clear e8)
            | (go_at_call 13; (with_reducible refine Calls.mono (eof_any k' l' s' cl' U' M' ao' cV' _ ?_ ?_) ?_); exact (HP2.out.2.2.2.1.gr0 GK5); exact (by omega); rintro r w6 ⟨p6, q6, rfl, e6, g6⟩; have GG6 : Gr [] w5 w6 := ⟨g6.os, g6.tape, g6.output, g6.size, g6.block⟩; have HE6 := Lib.hid (And.intro e6 (HE5.out.gr0 GG6)); have GK6 := GK5.next0 GG6; have s6 := HS15.out _ GK6; clear g6; clear e6)
            | (go_at_call 13; (with_reducible refine Calls.mono (eof_any k l s cl U M ao cV _ ?_ ?_) ?_); exact (HP2.out.2.2.1.gr0 GK4); exact (by omega); rintro r w5 ⟨p5, q5, rfl, e5, g5⟩; have GG5 : Gr [] w4 w5 := ⟨g5.os, g5.tape, g5.output, g5.size, g5.block⟩; have HE5 := Lib.hid e5; have GK5 := GK4.next0 GG5; have s5 := HS15.out _ GK5; clear g5; clear e5)
            | (go_at_call 18; (with_reducible refine Calls.mono (wakes16_any _) ?_); rintro r w4 ⟨rfl, g4⟩; have GK4 : Gr [] w3 w4 := ⟨g4.os, g4.tape, g4.output, g4.size, g4.block⟩; have s4 := HS15.out _ GK4; clear g4)))
          have HF := Lib.hid (HP2.out.2.2.2.2.next0 GK12)
          clear GK4 GK5 GK6 GK7 GK8 GK9 GK10 GK11 GK12
          go_wp2_with fail
          go_ret
          exact ⟨rfl, HF.out⟩
theorem walk_InodeEqual (v0 v1 : Value) {w : World} (s0 : InoArg w v0) (s1 : InoArg w v1) :
    Calls Try.prog 5 #[v0, v1] w fun e w' => e = .returned (.bool true) ∧ Below w.heap.size w w' := by
  obtain ⟨k, l, s, vb, t, rfl, _, hl, _, sb, ht⟩ := s0
  obtain ⟨k', l', s', vb', t', rfl, _, _, _, sb', ht'⟩ := s1
  obtain ⟨bl, ao, cap, rfl, hsl⟩ := sl2_of sb
  obtain ⟨bl', ao', cap', rfl, hsl'⟩ := sl2_of sb'
  exact (iequal_law k l s bl t bl.length ao cap k' l' s' bl' t' bl'.length ao' cap' w hsl hsl' ht ht' hl).mono fun _ _ q => ⟨q.1, q.2.below0⟩

end Go.Proofs.Ytpkhfdcokcchdab
