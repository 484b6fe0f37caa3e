/-
  MgR: PmRa, PmRb.
-/
import Derived.Test.YtgifjnniohcacaaGreatMgD
import Derived.StillTailTactics

/-
  The reference of layer 3: its words in memory against the device's state.
-/
namespace Go.Proofs.YtgifjnniohcacaaGreat
open Go.RowKit

/-- The blocks of the reference. -/
structure RefA where
  rd : Nat
  rw : Nat
  rr : Nat
  rb : Nat
def RefA.all (r : RefA) : List Nat := [r.rd, r.rw, r.rr, r.rb]
structure WordS where
  m : Nat
  t : Bool
  v : Nat
  f : Bool
def wcell (ws : Nat → WordS) (k : Nat) : Value := if k % 4 = 0 then .int .u64 ((ws (k / 4)).m : Int) else if k % 4 = 1 then .bool (ws (k / 4)).t else if k % 4 = 2 then .int .u64 ((ws (k / 4)).v : Int) else .bool (ws (k / 4)).f
theorem wcell0 (ws : Nat → WordS) (i : Nat) : wcell ws (i * 4) = .int .u64 ((ws i).m : Int) := by unfold wcell; rw [if_pos (by omega), show i * 4 / 4 = i by omega]
theorem wcell1 (ws : Nat → WordS) (i : Nat) : wcell ws (i * 4 + 1) = .bool (ws i).t := by unfold wcell; rw [if_neg (by omega), if_pos (by omega), show (i * 4 + 1) / 4 = i by omega]
theorem wcell2 (ws : Nat → WordS) (i : Nat) : wcell ws (i * 4 + 2) = .int .u64 ((ws i).v : Int) := by unfold wcell; rw [if_neg (by omega), if_neg (by omega), if_pos (by omega), show (i * 4 + 2) / 4 = i by omega]
theorem wcell3 (ws : Nat → WordS) (i : Nat) : wcell ws (i * 4 + 3) = .bool (ws i).f := by unfold wcell; rw [if_neg (by omega), if_neg (by omega), if_neg (by omega), show (i * 4 + 3) / 4 = i by omega]
def updW (ws : Nat → WordS) (i : Nat) (x : WordS) : Nat → WordS := fun j => if j = i then x else ws j
theorem wcell_upd (ws : Nat → WordS) (i d : Nat) (x : WordS) (u : Value) (_ : d < 4) (hu : wcell (updW ws i x) (i * 4 + d) = u) (ho : ∀ e, e < 4 → e ≠ d → wcell (updW ws i x) (i * 4 + e) = wcell ws (i * 4 + e)) (k : Nat) : (if k = i * 4 + d then u else wcell ws k) = wcell (updW ws i x) k := by
  by_cases e : k = i * 4 + d
  · rw [if_pos e, e, hu]
  · rw [if_neg e]
    by_cases q : k / 4 = i
    · have hk : k = i * 4 + k % 4 := by omega
      rw [hk]
      exact (ho (k % 4) (by omega) (by omega)).symm
    · unfold wcell updW
      rw [if_neg q]
theorem updW_same (ws : Nat → WordS) (i : Nat) (x : WordS) : updW ws i x i = x := by unfold updW; rw [if_pos rfl]
theorem wcell_m (ws : Nat → WordS) (i m : Nat) (k : Nat) : (if k = i * 4 then Value.int .u64 (m : Int) else wcell ws k) = wcell (updW ws i { ws i with m := m }) k :=
  wcell_upd ws i 0 { ws i with m := m } _ (by omega) (by rw [Nat.add_zero, wcell0, updW_same]) (fun e h1 h2 => by
    rcases (show e = 1 ∨ e = 2 ∨ e = 3 by omega) with rfl | rfl | rfl
    · rw [wcell1, wcell1, updW_same]
    · rw [wcell2, wcell2, updW_same]
    · rw [wcell3, wcell3, updW_same]) k
theorem wcell_t (ws : Nat → WordS) (i : Nat) (t : Bool) (k : Nat) : (if k = i * 4 + 1 then Value.bool t else wcell ws k) = wcell (updW ws i { ws i with t := t }) k :=
  wcell_upd ws i 1 { ws i with t := t } _ (by omega) (by rw [wcell1, updW_same]) (fun e h1 h2 => by
    rcases (show e = 0 ∨ e = 2 ∨ e = 3 by omega) with rfl | rfl | rfl
    · rw [Nat.add_zero, wcell0, wcell0, updW_same]
    · rw [wcell2, wcell2, updW_same]
    · rw [wcell3, wcell3, updW_same]) k
theorem wcell_v (ws : Nat → WordS) (i v : Nat) (k : Nat) : (if k = i * 4 + 2 then Value.int .u64 (v : Int) else wcell ws k) = wcell (updW ws i { ws i with v := v }) k :=
  wcell_upd ws i 2 { ws i with v := v } _ (by omega) (by rw [wcell2, updW_same]) (fun e h1 h2 => by
    rcases (show e = 0 ∨ e = 1 ∨ e = 3 by omega) with rfl | rfl | rfl
    · rw [Nat.add_zero, wcell0, wcell0, updW_same]
    · rw [wcell1, wcell1, updW_same]
    · rw [wcell3, wcell3, updW_same]) k
theorem wcell_f (ws : Nat → WordS) (i : Nat) (f : Bool) (k : Nat) : (if k = i * 4 + 3 then Value.bool f else wcell ws k) = wcell (updW ws i { ws i with f := f }) k :=
  wcell_upd ws i 3 { ws i with f := f } _ (by omega) (by rw [wcell3, updW_same]) (fun e h1 h2 => by
    rcases (show e = 0 ∨ e = 1 ∨ e = 2 by omega) with rfl | rfl | rfl
    · rw [Nat.add_zero, wcell0, wcell0, updW_same]
    · rw [wcell1, wcell1, updW_same]
    · rw [wcell2, wcell2, updW_same]) k

/-- What the reference's head and rows hold. -/
structure RefC where
  n : Nat
  ws : Nat → WordS
  wear : Nat → Int
  bad : Nat → Bool
  fuse : Int
  off : Bool
  cnt : Nat
def headR (r : RefA) (R : RefC) : Array Value :=
  #[.slice (some ⟨r.rw, 0, none⟩) (8 * R.n) (8 * R.n), .slice (some ⟨r.rr, 0, none⟩) R.n R.n, .slice (some ⟨r.rb, 0, none⟩) R.n R.n, .int .i64 R.fuse, .bool R.off, .int .i64 (R.cnt : Int)]
structure RefRow (W : World) (r : RefA) (R : RefC) : Prop where
  head : Holds W r.rd (headR r R) 57
  words : Holds W r.rw (rowOf (wcell R.ws) (4 * (8 * R.n))) 101
  wear : Holds W r.rr (rowOf (fun i => .int .i64 (R.wear i)) R.n) 3
  bad : Holds W r.rb (rowOf (fun i => .bool (R.bad i)) R.n) 4
  nd : r.all.Nodup
  lo : 1 ≤ R.n
  hi : R.n ≤ 8192
section
variable {W W' : World} {r : RefA} {R : RefC}
theorem RefRow.gr {bs : List Nat} (h : RefRow W r R) (g : Gr bs W W') (hn : ∀ b ∈ r.all, b ∉ bs) : RefRow W' r R :=
  ⟨h.head.gr g (hn _ (by simp [RefA.all])), h.words.gr g (hn _ (by simp [RefA.all])), h.wear.gr g (hn _ (by simp [RefA.all])), h.bad.gr g (hn _ (by simp [RefA.all])), h.nd, h.lo, h.hi⟩
theorem RefRow.gr0 (h : RefRow W r R) (g : Gr [] W W') : RefRow W' r R := h.gr g (by simp)
theorem RefRow.lt (h : RefRow W r R) : ∀ b ∈ r.all, b < W.heap.size := by
  intro b hb
  simp only [RefA.all, List.mem_cons, List.not_mem_nil, or_false] at hb
  rcases hb with rfl | rfl | rfl | rfl
  · exact h.head.lt
  · exact h.words.lt
  · exact h.wear.lt
  · exact h.bad.lt
theorem RefRow.ne (h : RefRow W r R) : r.rd ≠ r.rw ∧ r.rd ≠ r.rr ∧ r.rd ≠ r.rb ∧ r.rw ≠ r.rr ∧ r.rw ≠ r.rb ∧ r.rr ≠ r.rb := by
  have := h.nd
  simp [RefA.all] at this
  exact ⟨this.1.1, this.1.2.1, this.1.2.2, this.2.1.1, this.2.1.2, this.2.2⟩
theorem RefRow.c0 (h : RefRow W r R) : W.cell? ⟨r.rd, 0, none⟩ = some (.slice (some ⟨r.rw, 0, none⟩) (8 * R.n) (8 * R.n)) := h.head.cell 0
theorem RefRow.c1 (h : RefRow W r R) : W.cell? ⟨r.rd, 1, none⟩ = some (.slice (some ⟨r.rr, 0, none⟩) R.n R.n) := h.head.cell 1
theorem RefRow.c2 (h : RefRow W r R) : W.cell? ⟨r.rd, 2, none⟩ = some (.slice (some ⟨r.rb, 0, none⟩) R.n R.n) := h.head.cell 2
theorem RefRow.c3 (h : RefRow W r R) : W.cell? ⟨r.rd, 3, none⟩ = some (.int .i64 R.fuse) := h.head.cell 3
theorem RefRow.c4 (h : RefRow W r R) : W.cell? ⟨r.rd, 4, none⟩ = some (.bool R.off) := h.head.cell 4
theorem RefRow.c5 (h : RefRow W r R) : W.cell? ⟨r.rd, 5, none⟩ = some (.int .i64 (R.cnt : Int)) := h.head.cell 5
theorem RefRow.fr (h : RefRow W r R) (i : Nat) : W.frozen? ⟨r.rd, i, none⟩ = false := h.head.frozen i
theorem RefRow.wm (h : RefRow W r R) {i : Nat} (hi : i < 8 * R.n) : W.cell? ⟨r.rw, i * 4, none⟩ = some (.int .u64 ((R.ws i).m : Int)) := by rw [h.words.cell, rowOf_get _ _ _ (by omega), wcell0]
theorem RefRow.wt (h : RefRow W r R) {i : Nat} (hi : i < 8 * R.n) : W.cell? ⟨r.rw, i * 4 + 1, none⟩ = some (.bool (R.ws i).t) := by rw [h.words.cell, rowOf_get _ _ _ (by omega), wcell1]
theorem RefRow.wv (h : RefRow W r R) {i : Nat} (hi : i < 8 * R.n) : W.cell? ⟨r.rw, i * 4 + 2, none⟩ = some (.int .u64 ((R.ws i).v : Int)) := by rw [h.words.cell, rowOf_get _ _ _ (by omega), wcell2]
theorem RefRow.wf (h : RefRow W r R) {i : Nat} (hi : i < 8 * R.n) : W.cell? ⟨r.rw, i * 4 + 3, none⟩ = some (.bool (R.ws i).f) := by rw [h.words.cell, rowOf_get _ _ _ (by omega), wcell3]
theorem RefRow.wz (h : RefRow W r R) (i : Nat) : W.frozen? ⟨r.rw, i, none⟩ = false := h.words.frozen i
theorem RefRow.wearAt (h : RefRow W r R) {i : Nat} (hi : i < R.n) : W.cell? ⟨r.rr, i, none⟩ = some (.int .i64 (R.wear i)) := by rw [h.wear.cell, rowOf_get _ _ _ hi]
theorem RefRow.badAt (h : RefRow W r R) {i : Nat} (hi : i < R.n) : W.cell? ⟨r.rb, i, none⟩ = some (.bool (R.bad i)) := by rw [h.bad.cell, rowOf_get _ _ _ hi]
theorem RefRow.setHead (h : RefRow W r R) {i : Nat} {u : Value} {R' : RefC} (e : (headR r R).setIfInBounds i u = headR r R') (hn : R'.n = R.n) (hw : R'.ws = R.ws) (hr : R'.wear = R.wear) (hb : R'.bad = R.bad) : RefRow (W.setCell ⟨r.rd, i, none⟩ u) r R' := by
  obtain ⟨n1, n2, n3, n4, n5, n6⟩ := h.ne
  have g := grSet W r.rd i u
  have hh := h.head.set i u
  rw [e] at hh
  refine ⟨hh, ?_, ?_, ?_, h.nd, by rw [hn]; exact h.lo, by rw [hn]; exact h.hi⟩
  · rw [hn, hw]; exact h.words.gr g (by simpa using n1.symm)
  · rw [hn, hr]; exact h.wear.gr g (by simpa using n2.symm)
  · rw [hn, hb]; exact h.bad.gr g (by simpa using n3.symm)
theorem RefRow.setFuse (h : RefRow W r R) (x : Int) : RefRow (W.setCell ⟨r.rd, 3, none⟩ (.int .i64 x)) r { R with fuse := x } := h.setHead rfl rfl rfl rfl rfl
theorem RefRow.setOff (h : RefRow W r R) (x : Bool) : RefRow (W.setCell ⟨r.rd, 4, none⟩ (.bool x)) r { R with off := x } := h.setHead rfl rfl rfl rfl rfl
theorem RefRow.setCnt (h : RefRow W r R) (x : Nat) : RefRow (W.setCell ⟨r.rd, 5, none⟩ (.int .i64 (x : Int))) r { R with cnt := x } := h.setHead rfl rfl rfl rfl rfl
theorem RefRow.setWord (h : RefRow W r R) {k : Nat} {u : Value} {ws' : Nat → WordS} (e : ∀ j, (if j = k then u else wcell R.ws j) = wcell ws' j) : RefRow (W.setCell ⟨r.rw, k, none⟩ u) r { R with ws := ws' } := by
  obtain ⟨n1, n2, n3, n4, n5, n6⟩ := h.ne
  have g := grSet W r.rw k u
  refine ⟨h.head.gr g (by simpa using n1), ?_, h.wear.gr g (by simpa using n4.symm), h.bad.gr g (by simpa using n5.symm), h.nd, h.lo, h.hi⟩
  have hh := h.words.set k u
  rw [rowOf_set, rowOf_congr (g' := wcell ws') (fun j _ => e j)] at hh
  exact hh
theorem RefRow.setM (h : RefRow W r R) (i m : Nat) : RefRow (W.setCell ⟨r.rw, i * 4, none⟩ (.int .u64 (m : Int))) r { R with ws := updW R.ws i { R.ws i with m := m } } := h.setWord (wcell_m R.ws i m)
theorem RefRow.setT (h : RefRow W r R) (i : Nat) (t : Bool) : RefRow (W.setCell ⟨r.rw, i * 4 + 1, none⟩ (.bool t)) r { R with ws := updW R.ws i { R.ws i with t := t } } := h.setWord (wcell_t R.ws i t)
theorem RefRow.setV (h : RefRow W r R) (i v : Nat) : RefRow (W.setCell ⟨r.rw, i * 4 + 2, none⟩ (.int .u64 (v : Int))) r { R with ws := updW R.ws i { R.ws i with v := v } } := h.setWord (wcell_v R.ws i v)
theorem RefRow.setF (h : RefRow W r R) (i : Nat) (f : Bool) : RefRow (W.setCell ⟨r.rw, i * 4 + 3, none⟩ (.bool f)) r { R with ws := updW R.ws i { R.ws i with f := f } } := h.setWord (wcell_f R.ws i f)
theorem RefRow.setWear (h : RefRow W r R) (i : Nat) (x : Int) : RefRow (W.setCell ⟨r.rr, i, none⟩ (.int .i64 x)) r { R with wear := fun j => if j = i then x else R.wear j } := by
  obtain ⟨n1, n2, n3, n4, n5, n6⟩ := h.ne
  have g := grSet W r.rr i (.int .i64 x)
  refine ⟨h.head.gr g (by simpa using n2), h.words.gr g (by simpa using n4), ?_, h.bad.gr g (by simpa using n6.symm), h.nd, h.lo, h.hi⟩
  have hh := h.wear.set i (.int .i64 x)
  rw [rowOf_set, rowOf_congr (g' := fun j => .int .i64 (if j = i then x else R.wear j)) (fun j _ => by split <;> rfl)] at hh
  exact hh
theorem RefRow.setBad (h : RefRow W r R) (i : Nat) (x : Bool) : RefRow (W.setCell ⟨r.rb, i, none⟩ (.bool x)) r { R with bad := fun j => if j = i then x else R.bad j } := by
  obtain ⟨n1, n2, n3, n4, n5, n6⟩ := h.ne
  have g := grSet W r.rb i (.bool x)
  refine ⟨h.head.gr g (by simpa using n3), h.words.gr g (by simpa using n5), h.wear.gr g (by simpa using n6), ?_, h.nd, h.lo, h.hi⟩
  have hh := h.bad.set i (.bool x)
  rw [rowOf_set, rowOf_congr (g' := fun j => .bool (if j = i then x else R.bad j)) (fun j _ => by split <;> rfl)] at hh
  exact hh
end

/-- The reference's words say what the device's state says. -/
structure Says (D : DevS) (R : RefC) : Prop where
  n : R.n = D.n
  wear : ∀ l, l < D.n → R.wear l = D.wear l
  bad : ∀ l, l < D.n → R.bad l = D.bad l
  fuse : R.fuse = D.fuse
  off : R.off = D.off
  cnt : R.cnt = D.cnt
  med : ∀ i, i < 8 * D.n → (R.ws i).m = D.med i
  buf : ∀ i : Nat, i < 8 * D.n → (D.buf (i : Int) = none ∧ (R.ws i).t = false) ∨ (D.buf (i : Int) = some ((R.ws i).v, (R.ws i).f) ∧ (R.ws i).t = true)
def RefIs (W : World) (r : RefA) (D : DevS) : Prop := ∃ R, RefRow W r R ∧ Says D R
theorem RefIs.gr {W W' : World} {r : RefA} {D : DevS} {bs : List Nat} (h : RefIs W r D) (g : Gr bs W W') (hn : ∀ b ∈ r.all, b ∉ bs) : RefIs W' r D := by
  obtain ⟨R, h1, h2⟩ := h
  exact ⟨R, h1.gr g hn, h2⟩
theorem RefIs.gr0 {W W' : World} {r : RefA} {D : DevS} (h : RefIs W r D) (g : Gr [] W W') : RefIs W' r D := h.gr g (by simp)
theorem RefIs.lt {W : World} {r : RefA} {D : DevS} (h : RefIs W r D) : ∀ b ∈ r.all, b < W.heap.size := by
  obtain ⟨R, h1, h2⟩ := h
  exact h1.lt

end Go.Proofs.YtgifjnniohcacaaGreat

/-
  The reference of layer 3: begin, Load, Store, Flush.
-/
namespace Go.Proofs.YtgifjnniohcacaaGreat
open Go.RowKit

def reachR (R : RefC) (t : Bool) : Int := if R.off then 6 else if t then 0 else 3
def begE (R : RefC) (t : Bool) : Int := if reachR R t ≠ 0 then reachR R t else if R.fuse = 1 then 6 else 0
def litR (R : RefC) : RefC := { R with fuse := if 1 < R.fuse then R.fuse - 1 else R.fuse, cnt := R.cnt + 1 }
def begR (R : RefC) (t : Bool) : RefC := if reachR R t ≠ 0 then R else if R.fuse = 1 then { R with fuse := 0, off := true } else litR R

set_option maxRecDepth 20000 in
set_option maxHeartbeats 1000000 in
theorem rbegin_any (r : RefA) (R : RefC) (z o : Int) (w : World) (h : RefRow w r R) (hc : R.cnt < 4611686018427387904) (hf : 0 ≤ R.fuse ∧ R.fuse ≤ 9223372036854775807) :
    Calls Tryz.prog 93 #[.pointer (some ⟨r.rd, 0, none⟩), .int .i64 z, .int .i64 o] w fun e w' => e = .returned (.int .i64 (begE R (decide (0 ≤ z ∧ z < o)))) ∧ RefRow w' r (begR R (decide (0 ≤ z ∧ z < o))) ∧ Gr r.all w w' := by
  have c3 := h.c3
  have c4 := h.c4
  have c5 := h.c5
  have f3 := h.fr 3
  have f4 := h.fr 4
  have f5 := h.fr 5
  have H := Lib.hid h
  have hall : ∀ b ∈ [r.rd], b ∈ r.all := fun b hb => by simp at hb; subst hb; simp [RefA.all]
  have HA := Lib.hid hall
  clear h hall
  cases ho : R.off with
  | true =>
    rw [ho] at c4
    have HE := Lib.hid (show begE R (decide (0 ≤ z ∧ z < o)) = 6 ∧ begR R (decide (0 ≤ z ∧ z < o)) = R by unfold begE begR reachR; rw [ho]; exact ⟨rfl, rfl⟩)
    clear ho
    go_enter Tryz.func93, Tryz.ntmps93
    go_wp2
    go_ret
    rw [HE.out.1, HE.out.2]
    exact ⟨rfl, H.out, Gr.refl _ _⟩
  | false =>
    rw [ho] at c4
    by_cases h0 : 0 ≤ z
    · have d0 : decide (z < 0) = false := by simp; omega
      by_cases h1 : z < o
      · have d1 : decide (o ≤ z) = false := by simp; omega
        have ht : decide (0 ≤ z ∧ z < o) = true := by simp; omega
        rw [ht]
        clear ht h0 h1
        by_cases hf1 : R.fuse = 1
        · have HE := Lib.hid (show begE R true = 6 ∧ begR R true = { R with fuse := 0, off := true } by
            have hr : reachR R true = 0 := by unfold reachR; rw [ho]; rfl
            constructor <;> simp [begE, begR, hr, hf1])
          rw [hf1] at c3
          clear ho hf1 hf hc
          have f4b : (w.setCell ⟨r.rd, 3, none⟩ (.int .i64 0)).frozen? ⟨r.rd, 4, none⟩ = false := (H.out.setFuse 0).fr 4
          go_enter Tryz.func93, Tryz.ntmps93
          go_wp2
          go_ret
          rw [HE.out.1, HE.out.2]
          exact ⟨rfl, (H.out.setFuse 0).setOff true, ((grSet _ _ _ _).trans (grSet _ _ _ _)).mono HA.out⟩
        · have HE := Lib.hid (show begE R true = 0 ∧ begR R true = litR R by
            have hr : reachR R true = 0 := by unfold reachR; rw [ho]; rfl
            constructor <;> simp [begE, begR, hr, hf1])
          by_cases hf2 : 1 < R.fuse
          · have HE := Lib.hid (show begE R true = 0 ∧ begR R true = { R with fuse := R.fuse - 1, cnt := R.cnt + 1 } by rw [HE.out.1, HE.out.2]; unfold litR; rw [if_pos hf2]; exact ⟨rfl, rfl⟩)
            have H2 := (H.out.setFuse (R.fuse - 1))
            have c5b : (w.setCell ⟨r.rd, 3, none⟩ (.int .i64 (R.fuse - 1))).cell? ⟨r.rd, 5, none⟩ = some (.int .i64 (R.cnt : Int)) := H2.c5
            have H3 := Lib.hid (H2.setCnt (R.cnt + 1))
            have g3 := Lib.hid ((grSet w r.rd 3 (.int .i64 (R.fuse - 1))).trans (grSet _ r.rd 5 (.int .i64 ((R.cnt + 1 : Nat) : Int))))
            have e1 : (R.fuse == 1) = false := by simpa using hf1
            have e2 : decide (1 < R.fuse) = true := by simpa using hf2
            clear H2
            generalize R.fuse = x at *
            generalize R.cnt = q at *
            clear hf1 ho
            go_enter Tryz.func93, Tryz.ntmps93
            go_wp2
            go_ret
            rw [HE.out.1, HE.out.2]
            exact ⟨rfl, H3.out, g3.out.mono HA.out⟩
          · have HE := Lib.hid (show begE R true = 0 ∧ begR R true = { R with cnt := R.cnt + 1 } by rw [HE.out.1, HE.out.2]; unfold litR; rw [if_neg hf2]; exact ⟨rfl, rfl⟩)
            have H3 := Lib.hid (H.out.setCnt (R.cnt + 1))
            have g3 := Lib.hid (grSet w r.rd 5 (.int .i64 ((R.cnt + 1 : Nat) : Int)))
            have e1 : (R.fuse == 1) = false := by simpa using hf1
            have e2 : decide (1 < R.fuse) = false := by simpa using hf2
            generalize R.fuse = x at *
            generalize R.cnt = q at *
            clear hf1 ho
            go_enter Tryz.func93, Tryz.ntmps93
            go_wp2
            go_ret
            rw [HE.out.1, HE.out.2]
            exact ⟨rfl, H3.out, g3.out.mono HA.out⟩
      · have d1 : decide (o ≤ z) = true := by simp; omega
        have ht : decide (0 ≤ z ∧ z < o) = false := by simp; omega
        rw [ht]
        have HE := Lib.hid (show begE R false = 3 ∧ begR R false = R by unfold begE begR reachR; rw [ho]; exact ⟨rfl, rfl⟩)
        clear ho ht h0 h1
        go_enter Tryz.func93, Tryz.ntmps93
        go_wp2
        go_ret
        rw [HE.out.1, HE.out.2]
        exact ⟨rfl, H.out, Gr.refl _ _⟩
    · have d0 : decide (z < 0) = true := by simp; omega
      have ht : decide (0 ≤ z ∧ z < o) = false := by simp; omega
      rw [ht]
      have HE := Lib.hid (show begE R false = 3 ∧ begR R false = R by unfold begE begR reachR; rw [ho]; exact ⟨rfl, rfl⟩)
      clear ho ht h0
      go_enter Tryz.func93, Tryz.ntmps93
      go_wp2
      go_ret
      rw [HE.out.1, HE.out.2]
      exact ⟨rfl, H.out, Gr.refl _ _⟩

/-! ### Load -/
def loadR (R : RefC) (z : Int) : Int × Int := if R.off then (0, 6) else if 0 ≤ z ∧ z < 8 * R.n then (if (R.ws z.toNat).t then ((R.ws z.toNat).v : Int) else ((R.ws z.toNat).m : Int), 0) else (0, 3)
set_option maxRecDepth 20000 in
set_option maxHeartbeats 1000000 in
theorem rload_any (r : RefA) (R : RefC) (z : Int) (w : World) (h : RefRow w r R) :
    Calls Tryz.prog 47 #[.pointer (some ⟨r.rd, 0, none⟩), .int .i64 z] w fun e w' => e = .returned (.tuple #[.int .u64 (loadR R z).1, .int .i64 (loadR R z).2]) ∧ w = w' := by
  have c0 := h.c0
  have c4 := h.c4
  have hn := h.hi
  cases ho : R.off with
  | true =>
    have HE := Lib.hid (show loadR R z = (0, 6) by unfold loadR; rw [ho]; rfl)
    rw [ho] at c4
    clear ho h
    go_enter Tryz.func47, Tryz.ntmps47
    go_wp2
    go_ret2
    rw [HE.out]
    exact ⟨rfl, rfl⟩
  | false =>
    rw [ho] at c4
    by_cases h0 : 0 ≤ z
    · have d0 : decide (z < 0) = false := by simp; omega
      by_cases h1 : z < 8 * R.n
      · obtain ⟨i, rfl⟩ := Int.eq_ofNat_of_zero_le h0
        have hi : i < 8 * R.n := by omega
        have d1 : decide (8 * (R.n : Int) ≤ (i : Int)) = false := by simp; omega
        have HE := Lib.hid (show loadR R (i : Int) = (if (R.ws i).t then ((R.ws i).v : Int) else ((R.ws i).m : Int), 0) by unfold loadR; rw [ho, if_neg (by simp), if_pos (by omega), Int.toNat_natCast])
        have m0 := h.wm hi
        have m1 := h.wt hi
        have m2 := h.wv hi
        clear h ho
        generalize R.n = n at *
        cases ht : (R.ws i).t with
        | true =>
          rw [ht] at m1 HE
          go_enter Tryz.func47, Tryz.ntmps47
          go_wp2
          go_ret2
          rw [HE.out]
          exact ⟨rfl, rfl⟩
        | false =>
          rw [ht] at m1 HE
          go_enter Tryz.func47, Tryz.ntmps47
          go_wp2
          go_ret2
          rw [HE.out]
          exact ⟨rfl, rfl⟩
      · have d1 : decide (8 * (R.n : Int) ≤ z) = true := by simp; omega
        have HE := Lib.hid (show loadR R z = (0, 3) by unfold loadR; rw [ho, if_neg (by simp), if_neg (by omega)])
        clear h ho
        generalize R.n = n at *
        go_enter Tryz.func47, Tryz.ntmps47
        go_wp2
        go_ret2
        rw [HE.out]
        exact ⟨rfl, rfl⟩
    · have d0 : decide (z < 0) = true := by simp; omega
      have HE := Lib.hid (show loadR R z = (0, 3) by unfold loadR; rw [ho, if_neg (by simp), if_neg (by omega)])
      clear h ho
      generalize R.n = n at *
      go_enter Tryz.func47, Tryz.ntmps47
      go_wp2
      go_ret2
      rw [HE.out]
      exact ⟨rfl, rfl⟩

/-! ### Store -/
theorem begE_zero {R : RefC} {t : Bool} (h : begE R t = 0) : t = true ∧ begR R t = litR R := by
  unfold begE at h
  by_cases hr : reachR R t = 0
  · rw [if_neg (by simp [hr])] at h
    by_cases hf : R.fuse = 1
    · rw [if_pos hf] at h; cases h
    · refine ⟨?_, by unfold begR; rw [if_neg (by simp [hr]), if_neg hf]⟩
      unfold reachR at hr
      cases ho : R.off <;> cases t <;> simp [ho] at hr ⊢
  · rw [if_pos hr] at h; exact absurd h hr
def storeW (ws : Nat → WordS) (i v : Nat) : Nat → WordS := updW ws i { m := (ws i).m, t := true, v := v, f := false }
def storeR (R : RefC) (z : Int) (v : Nat) : RefC := if begE R (decide (0 ≤ z ∧ z < 8 * R.n)) = 0 then { litR R with ws := storeW R.ws z.toNat v } else begR R (decide (0 ≤ z ∧ z < 8 * R.n))
theorem updW_twice (ws : Nat → WordS) (i : Nat) (x y : WordS) : updW (updW ws i x) i y = updW ws i y := by
  funext j
  unfold updW
  split <;> rfl

set_option maxRecDepth 20000 in
set_option maxHeartbeats 1000000 in
theorem rstore_any (r : RefA) (R : RefC) (z : Int) (v : Nat) (w : World) (h : RefRow w r R) (hc : R.cnt < 4611686018427387904) (hf : 0 ≤ R.fuse ∧ R.fuse ≤ 9223372036854775807) :
    Calls Tryz.prog 74 #[.pointer (some ⟨r.rd, 0, none⟩), .int .i64 z, .int .u64 v] w fun e w' => e = .returned (.int .i64 (begE R (decide (0 ≤ z ∧ z < 8 * R.n)))) ∧ RefRow w' r (storeR R z v) ∧ Gr r.all w w' := by
  have c0 := h.c0
  have hn := h.hi
  have HB := Lib.hid (rbegin_any r R z (8 * R.n) w h hc hf)
  obtain ⟨t, ht⟩ : ∃ t, decide (0 ≤ z ∧ z < 8 * (R.n : Int)) = t := ⟨_, rfl⟩
  have HT := Lib.hid ht
  unfold storeR
  rw [ht] at HB ⊢
  clear ht
  have H := Lib.hid h
  obtain ⟨n, hn2⟩ : ∃ n, n = R.n := ⟨_, rfl⟩
  rw [← hn2] at c0 HB hn HT
  have HN2 := Lib.hid hn2
  clear h hn2 hc hf
  go_enter Tryz.func74, Tryz.ntmps74
  go_wp2_with fail
  refine HB.out.mono ?_
  rintro e w1 ⟨rfl, R1, g1⟩
  by_cases h0 : begE R t = 0
  · have HZ0 := Lib.hid h0
    rw [h0]
    obtain ⟨h1, h2⟩ := begE_zero h0
    subst h1
    rw [h2] at R1
    have hz : 0 ≤ z ∧ z < 8 * (n : Int) := by have := HT.out; simpa using this
    obtain ⟨i, rfl⟩ := Int.eq_ofNat_of_zero_le hz.1
    have hi : i < 8 * n := by omega
    have hnn : (litR R).n = n := HN2.out.symm
    have k0 := R1.c0
    rw [hnn] at k0
    have k1 := R1.setT i true
    have k2 := k1.setV i v
    have k3 := k2.setF i false
    have f1 := R1.wz (i * 4 + 1)
    have f2 := R1.wz (i * 4 + 2)
    have f3 := R1.wz (i * 4 + 3)
    have m1 := R1.wt (i := i) (by rw [hnn]; exact hi)
    have m2 := R1.wv (i := i) (by rw [hnn]; exact hi)
    have m3 := R1.wf (i := i) (by rw [hnn]; exact hi)
    have a0 := k1.c0
    have a1 := k2.c0
    rw [show ({ litR R with ws := updW (litR R).ws i { (litR R).ws i with t := true } } : RefC).n = n from hnn] at a0
    rw [show ({ ({ litR R with ws := updW (litR R).ws i { (litR R).ws i with t := true } } : RefC) with ws := updW (updW (litR R).ws i { (litR R).ws i with t := true }) i { (updW (litR R).ws i { (litR R).ws i with t := true }) i with v := v } } : RefC).n = n from hnn] at a1
    have HD := Lib.hid (And.intro k3 (g1.trans ((((grSet w1 r.rw (i * 4 + 1) (.bool true)).trans (grSet _ r.rw (i * 4 + 2) (.int .u64 (v : Int)))).trans (grSet _ r.rw (i * 4 + 3) (.bool false))).mono (cs := r.all) (fun b hb => by simp at hb; subst hb; simp [RefA.all]))))
    clear k1 k2 k3 R1 g1 h0 h2
    go_wp2
    go_ret
    refine ⟨by first | rfl | rw [HZ0.out], ?_, HD.out.2⟩
    have q := HD.out.1
    rw [updW_same, updW_twice, updW_same, updW_twice] at q
    first
      | exact q
      | (rw [if_pos HZ0.out, Int.toNat_natCast]; exact q)
      | (rw [Int.toNat_natCast]; exact q)
      | (have hn3 := HN2.out; subst hn3; exact q)
  · have HZ0 := Lib.hid h0
    have e1 : (begE R t == 0) = false := by simpa using h0
    have HD := Lib.hid (And.intro R1 g1)
    clear R1 g1 h0
    go_wp2
    go_ret
    exact ⟨rfl, by first | exact HD.out.1 | (rw [if_neg HZ0.out]; exact HD.out.1), HD.out.2⟩

end Go.Proofs.YtgifjnniohcacaaGreat
