/-
  The reference of layer 3: its words in memory against the device's state.
-/
import Derived.Test.YtgifjnniohcacaaMgD
namespace Go.Proofs.Ytgifjnniohcacaa
open Go.RowKit

/-- The blocks of the reference. -/
structure RefA where
  rd : Nat
  rw : Nat
  rr : Nat
  rb : Nat
def RefA.all (r : RefA) : List Nat := [r.rd, r.rw, r.rr, r.rb]
structure WordS where
  m : Nat
  t : Bool
  v : Nat
  f : Bool
def wcell (ws : Nat → WordS) (k : Nat) : Value := if k % 4 = 0 then .int .u64 ((ws (k / 4)).m : Int) else if k % 4 = 1 then .bool (ws (k / 4)).t else if k % 4 = 2 then .int .u64 ((ws (k / 4)).v : Int) else .bool (ws (k / 4)).f
theorem wcell0 (ws : Nat → WordS) (i : Nat) : wcell ws (i * 4) = .int .u64 ((ws i).m : Int) := by unfold wcell; rw [if_pos (by omega), show i * 4 / 4 = i by omega]
theorem wcell1 (ws : Nat → WordS) (i : Nat) : wcell ws (i * 4 + 1) = .bool (ws i).t := by unfold wcell; rw [if_neg (by omega), if_pos (by omega), show (i * 4 + 1) / 4 = i by omega]
theorem wcell2 (ws : Nat → WordS) (i : Nat) : wcell ws (i * 4 + 2) = .int .u64 ((ws i).v : Int) := by unfold wcell; rw [if_neg (by omega), if_neg (by omega), if_pos (by omega), show (i * 4 + 2) / 4 = i by omega]
theorem wcell3 (ws : Nat → WordS) (i : Nat) : wcell ws (i * 4 + 3) = .bool (ws i).f := by unfold wcell; rw [if_neg (by omega), if_neg (by omega), if_neg (by omega), show (i * 4 + 3) / 4 = i by omega]
def updW (ws : Nat → WordS) (i : Nat) (x : WordS) : Nat → WordS := fun j => if j = i then x else ws j
theorem wcell_upd (ws : Nat → WordS) (i d : Nat) (x : WordS) (u : Value) (_ : d < 4) (hu : wcell (updW ws i x) (i * 4 + d) = u) (ho : ∀ e, e < 4 → e ≠ d → wcell (updW ws i x) (i * 4 + e) = wcell ws (i * 4 + e)) (k : Nat) : (if k = i * 4 + d then u else wcell ws k) = wcell (updW ws i x) k := by
  by_cases e : k = i * 4 + d
  · rw [if_pos e, e, hu]
  · rw [if_neg e]
    by_cases q : k / 4 = i
    · have hk : k = i * 4 + k % 4 := by omega
      rw [hk]
      exact (ho (k % 4) (by omega) (by omega)).symm
    · unfold wcell updW
      rw [if_neg q]
theorem updW_same (ws : Nat → WordS) (i : Nat) (x : WordS) : updW ws i x i = x := by unfold updW; rw [if_pos rfl]
theorem wcell_m (ws : Nat → WordS) (i m : Nat) (k : Nat) : (if k = i * 4 then Value.int .u64 (m : Int) else wcell ws k) = wcell (updW ws i { ws i with m := m }) k :=
  wcell_upd ws i 0 { ws i with m := m } _ (by omega) (by rw [Nat.add_zero, wcell0, updW_same]) (fun e h1 h2 => by
    rcases (show e = 1 ∨ e = 2 ∨ e = 3 by omega) with rfl | rfl | rfl
    · rw [wcell1, wcell1, updW_same]
    · rw [wcell2, wcell2, updW_same]
    · rw [wcell3, wcell3, updW_same]) k
theorem wcell_t (ws : Nat → WordS) (i : Nat) (t : Bool) (k : Nat) : (if k = i * 4 + 1 then Value.bool t else wcell ws k) = wcell (updW ws i { ws i with t := t }) k :=
  wcell_upd ws i 1 { ws i with t := t } _ (by omega) (by rw [wcell1, updW_same]) (fun e h1 h2 => by
    rcases (show e = 0 ∨ e = 2 ∨ e = 3 by omega) with rfl | rfl | rfl
    · rw [Nat.add_zero, wcell0, wcell0, updW_same]
    · rw [wcell2, wcell2, updW_same]
    · rw [wcell3, wcell3, updW_same]) k
theorem wcell_v (ws : Nat → WordS) (i v : Nat) (k : Nat) : (if k = i * 4 + 2 then Value.int .u64 (v : Int) else wcell ws k) = wcell (updW ws i { ws i with v := v }) k :=
  wcell_upd ws i 2 { ws i with v := v } _ (by omega) (by rw [wcell2, updW_same]) (fun e h1 h2 => by
    rcases (show e = 0 ∨ e = 1 ∨ e = 3 by omega) with rfl | rfl | rfl
    · rw [Nat.add_zero, wcell0, wcell0, updW_same]
    · rw [wcell1, wcell1, updW_same]
    · rw [wcell3, wcell3, updW_same]) k
theorem wcell_f (ws : Nat → WordS) (i : Nat) (f : Bool) (k : Nat) : (if k = i * 4 + 3 then Value.bool f else wcell ws k) = wcell (updW ws i { ws i with f := f }) k :=
  wcell_upd ws i 3 { ws i with f := f } _ (by omega) (by rw [wcell3, updW_same]) (fun e h1 h2 => by
    rcases (show e = 0 ∨ e = 1 ∨ e = 2 by omega) with rfl | rfl | rfl
    · rw [Nat.add_zero, wcell0, wcell0, updW_same]
    · rw [wcell1, wcell1, updW_same]
    · rw [wcell2, wcell2, updW_same]) k

/-- What the reference's head and rows hold. -/
structure RefC where
  n : Nat
  ws : Nat → WordS
  wear : Nat → Int
  bad : Nat → Bool
  fuse : Int
  off : Bool
  cnt : Nat
def headR (r : RefA) (R : RefC) : Array Value :=
  #[.slice (some ⟨r.rw, 0, none⟩) (8 * R.n) (8 * R.n), .slice (some ⟨r.rr, 0, none⟩) R.n R.n, .slice (some ⟨r.rb, 0, none⟩) R.n R.n, .int .i64 R.fuse, .bool R.off, .int .i64 (R.cnt : Int)]
structure RefRow (W : World) (r : RefA) (R : RefC) : Prop where
  head : Holds W r.rd (headR r R) 126
  words : Holds W r.rw (rowOf (wcell R.ws) (4 * (8 * R.n))) 154
  wear : Holds W r.rr (rowOf (fun i => .int .i64 (R.wear i)) R.n) 3
  bad : Holds W r.rb (rowOf (fun i => .bool (R.bad i)) R.n) 4
  nd : r.all.Nodup
  lo : 1 ≤ R.n
  hi : R.n ≤ 8192
section
variable {W W' : World} {r : RefA} {R : RefC}
theorem RefRow.gr {bs : List Nat} (h : RefRow W r R) (g : Gr bs W W') (hn : ∀ b ∈ r.all, b ∉ bs) : RefRow W' r R :=
  ⟨h.head.gr g (hn _ (by simp [RefA.all])), h.words.gr g (hn _ (by simp [RefA.all])), h.wear.gr g (hn _ (by simp [RefA.all])), h.bad.gr g (hn _ (by simp [RefA.all])), h.nd, h.lo, h.hi⟩
theorem RefRow.gr0 (h : RefRow W r R) (g : Gr [] W W') : RefRow W' r R := h.gr g (by simp)
theorem RefRow.lt (h : RefRow W r R) : ∀ b ∈ r.all, b < W.heap.size := by
  intro b hb
  simp only [RefA.all, List.mem_cons, List.not_mem_nil, or_false] at hb
  rcases hb with rfl | rfl | rfl | rfl
  · exact h.head.lt
  · exact h.words.lt
  · exact h.wear.lt
  · exact h.bad.lt
theorem RefRow.ne (h : RefRow W r R) : r.rd ≠ r.rw ∧ r.rd ≠ r.rr ∧ r.rd ≠ r.rb ∧ r.rw ≠ r.rr ∧ r.rw ≠ r.rb ∧ r.rr ≠ r.rb := by
  have := h.nd
  simp [RefA.all] at this
  exact ⟨this.1.1, this.1.2.1, this.1.2.2, this.2.1.1, this.2.1.2, this.2.2⟩
theorem RefRow.c0 (h : RefRow W r R) : W.cell? ⟨r.rd, 0, none⟩ = some (.slice (some ⟨r.rw, 0, none⟩) (8 * R.n) (8 * R.n)) := h.head.cell 0
theorem RefRow.c1 (h : RefRow W r R) : W.cell? ⟨r.rd, 1, none⟩ = some (.slice (some ⟨r.rr, 0, none⟩) R.n R.n) := h.head.cell 1
theorem RefRow.c2 (h : RefRow W r R) : W.cell? ⟨r.rd, 2, none⟩ = some (.slice (some ⟨r.rb, 0, none⟩) R.n R.n) := h.head.cell 2
theorem RefRow.c3 (h : RefRow W r R) : W.cell? ⟨r.rd, 3, none⟩ = some (.int .i64 R.fuse) := h.head.cell 3
theorem RefRow.c4 (h : RefRow W r R) : W.cell? ⟨r.rd, 4, none⟩ = some (.bool R.off) := h.head.cell 4
theorem RefRow.c5 (h : RefRow W r R) : W.cell? ⟨r.rd, 5, none⟩ = some (.int .i64 (R.cnt : Int)) := h.head.cell 5
theorem RefRow.fr (h : RefRow W r R) (i : Nat) : W.frozen? ⟨r.rd, i, none⟩ = false := h.head.frozen i
theorem RefRow.wm (h : RefRow W r R) {i : Nat} (hi : i < 8 * R.n) : W.cell? ⟨r.rw, i * 4, none⟩ = some (.int .u64 ((R.ws i).m : Int)) := by rw [h.words.cell, rowOf_get _ _ _ (by omega), wcell0]
theorem RefRow.wt (h : RefRow W r R) {i : Nat} (hi : i < 8 * R.n) : W.cell? ⟨r.rw, i * 4 + 1, none⟩ = some (.bool (R.ws i).t) := by rw [h.words.cell, rowOf_get _ _ _ (by omega), wcell1]
theorem RefRow.wv (h : RefRow W r R) {i : Nat} (hi : i < 8 * R.n) : W.cell? ⟨r.rw, i * 4 + 2, none⟩ = some (.int .u64 ((R.ws i).v : Int)) := by rw [h.words.cell, rowOf_get _ _ _ (by omega), wcell2]
theorem RefRow.wf (h : RefRow W r R) {i : Nat} (hi : i < 8 * R.n) : W.cell? ⟨r.rw, i * 4 + 3, none⟩ = some (.bool (R.ws i).f) := by rw [h.words.cell, rowOf_get _ _ _ (by omega), wcell3]
theorem RefRow.wz (h : RefRow W r R) (i : Nat) : W.frozen? ⟨r.rw, i, none⟩ = false := h.words.frozen i
theorem RefRow.wearAt (h : RefRow W r R) {i : Nat} (hi : i < R.n) : W.cell? ⟨r.rr, i, none⟩ = some (.int .i64 (R.wear i)) := by rw [h.wear.cell, rowOf_get _ _ _ hi]
theorem RefRow.badAt (h : RefRow W r R) {i : Nat} (hi : i < R.n) : W.cell? ⟨r.rb, i, none⟩ = some (.bool (R.bad i)) := by rw [h.bad.cell, rowOf_get _ _ _ hi]
theorem RefRow.setHead (h : RefRow W r R) {i : Nat} {u : Value} {R' : RefC} (e : (headR r R).setIfInBounds i u = headR r R') (hn : R'.n = R.n) (hw : R'.ws = R.ws) (hr : R'.wear = R.wear) (hb : R'.bad = R.bad) : RefRow (W.setCell ⟨r.rd, i, none⟩ u) r R' := by
  obtain ⟨n1, n2, n3, n4, n5, n6⟩ := h.ne
  have g := grSet W r.rd i u
  have hh := h.head.set i u
  rw [e] at hh
  refine ⟨hh, ?_, ?_, ?_, h.nd, by rw [hn]; exact h.lo, by rw [hn]; exact h.hi⟩
  · rw [hn, hw]; exact h.words.gr g (by simpa using n1.symm)
  · rw [hn, hr]; exact h.wear.gr g (by simpa using n2.symm)
  · rw [hn, hb]; exact h.bad.gr g (by simpa using n3.symm)
theorem RefRow.setFuse (h : RefRow W r R) (x : Int) : RefRow (W.setCell ⟨r.rd, 3, none⟩ (.int .i64 x)) r { R with fuse := x } := h.setHead rfl rfl rfl rfl rfl
theorem RefRow.setOff (h : RefRow W r R) (x : Bool) : RefRow (W.setCell ⟨r.rd, 4, none⟩ (.bool x)) r { R with off := x } := h.setHead rfl rfl rfl rfl rfl
theorem RefRow.setCnt (h : RefRow W r R) (x : Nat) : RefRow (W.setCell ⟨r.rd, 5, none⟩ (.int .i64 (x : Int))) r { R with cnt := x } := h.setHead rfl rfl rfl rfl rfl
theorem RefRow.setWord (h : RefRow W r R) {k : Nat} {u : Value} {ws' : Nat → WordS} (e : ∀ j, (if j = k then u else wcell R.ws j) = wcell ws' j) : RefRow (W.setCell ⟨r.rw, k, none⟩ u) r { R with ws := ws' } := by
  obtain ⟨n1, n2, n3, n4, n5, n6⟩ := h.ne
  have g := grSet W r.rw k u
  refine ⟨h.head.gr g (by simpa using n1), ?_, h.wear.gr g (by simpa using n4.symm), h.bad.gr g (by simpa using n5.symm), h.nd, h.lo, h.hi⟩
  have hh := h.words.set k u
  rw [rowOf_set, rowOf_congr (g' := wcell ws') (fun j _ => e j)] at hh
  exact hh
theorem RefRow.setM (h : RefRow W r R) (i m : Nat) : RefRow (W.setCell ⟨r.rw, i * 4, none⟩ (.int .u64 (m : Int))) r { R with ws := updW R.ws i { R.ws i with m := m } } := h.setWord (wcell_m R.ws i m)
theorem RefRow.setT (h : RefRow W r R) (i : Nat) (t : Bool) : RefRow (W.setCell ⟨r.rw, i * 4 + 1, none⟩ (.bool t)) r { R with ws := updW R.ws i { R.ws i with t := t } } := h.setWord (wcell_t R.ws i t)
theorem RefRow.setV (h : RefRow W r R) (i v : Nat) : RefRow (W.setCell ⟨r.rw, i * 4 + 2, none⟩ (.int .u64 (v : Int))) r { R with ws := updW R.ws i { R.ws i with v := v } } := h.setWord (wcell_v R.ws i v)
theorem RefRow.setF (h : RefRow W r R) (i : Nat) (f : Bool) : RefRow (W.setCell ⟨r.rw, i * 4 + 3, none⟩ (.bool f)) r { R with ws := updW R.ws i { R.ws i with f := f } } := h.setWord (wcell_f R.ws i f)
theorem RefRow.setWear (h : RefRow W r R) (i : Nat) (x : Int) : RefRow (W.setCell ⟨r.rr, i, none⟩ (.int .i64 x)) r { R with wear := fun j => if j = i then x else R.wear j } := by
  obtain ⟨n1, n2, n3, n4, n5, n6⟩ := h.ne
  have g := grSet W r.rr i (.int .i64 x)
  refine ⟨h.head.gr g (by simpa using n2), h.words.gr g (by simpa using n4), ?_, h.bad.gr g (by simpa using n6.symm), h.nd, h.lo, h.hi⟩
  have hh := h.wear.set i (.int .i64 x)
  rw [rowOf_set, rowOf_congr (g' := fun j => .int .i64 (if j = i then x else R.wear j)) (fun j _ => by split <;> rfl)] at hh
  exact hh
theorem RefRow.setBad (h : RefRow W r R) (i : Nat) (x : Bool) : RefRow (W.setCell ⟨r.rb, i, none⟩ (.bool x)) r { R with bad := fun j => if j = i then x else R.bad j } := by
  obtain ⟨n1, n2, n3, n4, n5, n6⟩ := h.ne
  have g := grSet W r.rb i (.bool x)
  refine ⟨h.head.gr g (by simpa using n3), h.words.gr g (by simpa using n5), h.wear.gr g (by simpa using n6), ?_, h.nd, h.lo, h.hi⟩
  have hh := h.bad.set i (.bool x)
  rw [rowOf_set, rowOf_congr (g' := fun j => .bool (if j = i then x else R.bad j)) (fun j _ => by split <;> rfl)] at hh
  exact hh
end

/-- The reference's words say what the device's state says. -/
structure Says (D : DevS) (R : RefC) : Prop where
  n : R.n = D.n
  wear : ∀ l, l < D.n → R.wear l = D.wear l
  bad : ∀ l, l < D.n → R.bad l = D.bad l
  fuse : R.fuse = D.fuse
  off : R.off = D.off
  cnt : R.cnt = D.cnt
  med : ∀ i, i < 8 * D.n → (R.ws i).m = D.med i
  buf : ∀ i : Nat, i < 8 * D.n → (D.buf (i : Int) = none ∧ (R.ws i).t = false) ∨ (D.buf (i : Int) = some ((R.ws i).v, (R.ws i).f) ∧ (R.ws i).t = true)
def RefIs (W : World) (r : RefA) (D : DevS) : Prop := ∃ R, RefRow W r R ∧ Says D R
theorem RefIs.gr {W W' : World} {r : RefA} {D : DevS} {bs : List Nat} (h : RefIs W r D) (g : Gr bs W W') (hn : ∀ b ∈ r.all, b ∉ bs) : RefIs W' r D := by
  obtain ⟨R, h1, h2⟩ := h
  exact ⟨R, h1.gr g hn, h2⟩
theorem RefIs.gr0 {W W' : World} {r : RefA} {D : DevS} (h : RefIs W r D) (g : Gr [] W W') : RefIs W' r D := h.gr g (by simp)
theorem RefIs.lt {W : World} {r : RefA} {D : DevS} (h : RefIs W r D) : ∀ b ∈ r.all, b < W.heap.size := by
  obtain ⟨R, h1, h2⟩ := h
  exact h1.lt

end Go.Proofs.Ytgifjnniohcacaa
