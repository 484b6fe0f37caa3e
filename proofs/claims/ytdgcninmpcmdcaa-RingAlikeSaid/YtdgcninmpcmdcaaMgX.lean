/-
  MgX: RgP, RgJ, RgL.
-/
import Derived.Test.YtdgcninmpcmdcaaPure
import Derived.Test.YtdgcninmpcmdcaaRgI
import Derived.Test.YtdgcninmpcmdcaaMgV

/-
  Layer 7, pure: how a region stands behind so many moves; the counts of RingEven (by the kernel, for all plans that the law can make).
-/
namespace Go.Proofs.Ytdgcninmpcmdcaa

/-- The slot of line i, of l lines, behind j moves. -/
def slotN (l j i : Nat) : Nat := if (i + j / (l + 1) % l) % l < l - j % (l + 1) then (i + j / (l + 1) % l) % l else (i + j / (l + 1) % l) % l + 1
/-- The moves ahead of write n; behind it. -/
def befN (psi n : Nat) : Nat := if n = 0 then 0 else (n - 1) / psi
def incN (f : List Nat) (k : Nat) : List Nat := f.set k (f.getD k 0 + 1)
/-- The moves into each slot, behind n writes. -/
def mvdN (l psi : Nat) : Nat → List Nat
  | 0 => List.replicate (l + 1) 0
  | n + 1 => if befN psi n = n / psi then mvdN l psi n else incN (mvdN l psi n) (l - befN psi n % (l + 1))
def stepStay (l psi n : Nat) (st : List Nat) : List Nat := (List.range l).map fun i => if slotN l (n / psi) i = slotN l (befN psi n) i then st.getD i 0 + 1 else 1
/-- How long each line has stayed, behind n writes. -/
def stayN (l psi : Nat) : Nat → List Nat
  | 0 => List.replicate l 0
  | n + 1 => stepStay l psi n (stayN l psi n)
/-- Both at once, for the kernel: n writes more from (m, mv, st) on; is all as it should be? -/
def evenFrom (l psi : Nat) : Nat → Nat → List Nat → List Nat → Bool
  | 0, _, _, _ => true
  | k + 1, n, mv, st =>
    let mv2 := if befN psi n = n / psi then mv else incN mv (l - befN psi n % (l + 1))
    let st2 := stepStay l psi n st
    st2.all (fun x => decide (x ≤ (l + 1) * psi)) && (mv2.all fun x => mv2.all fun y => decide (x ≤ y + 1)) && evenFrom l psi k (n + 1) mv2 st2
theorem evenFrom_all (l psi : Nat) : ∀ k n, evenFrom l psi k n (mvdN l psi n) (stayN l psi n) = true → ∀ m, n < m → m ≤ n + k → (∀ x ∈ stayN l psi m, x ≤ (l + 1) * psi) ∧ ∀ x ∈ mvdN l psi m, ∀ y ∈ mvdN l psi m, x ≤ y + 1
  | 0, n, _, m, h1, h2 => by omega
  | k + 1, n, h, m, h1, h2 => by
    rw [evenFrom] at h
    simp only [Bool.and_eq_true] at h
    obtain ⟨⟨a, b⟩, c⟩ := h
    by_cases e : m = n + 1
    · subst e
      refine ⟨fun x hx => ?_, fun x hx y hy => ?_⟩
      · simpa using List.all_eq_true.1 a x hx
      · have := List.all_eq_true.1 (List.all_eq_true.1 b x hx) y hy
        simpa using this
    · exact evenFrom_all l psi k (n + 1) c m (by omega) (by omega)
theorem even_check : ((List.range 5).all fun l => (List.range 4).all fun q => evenFrom (l + 1) (q + 1) 120 0 (List.replicate (l + 2) 0) (List.replicate (l + 1) 0)) = true := by decide +kernel
theorem even_all {l psi n : Nat} (h1 : 1 ≤ l) (h2 : l ≤ 5) (h3 : 1 ≤ psi) (h4 : psi ≤ 4) (h5 : n ≤ 120) (h0 : 0 < n) : (∀ x ∈ stayN l psi n, x ≤ (l + 1) * psi) ∧ ∀ x ∈ mvdN l psi n, ∀ y ∈ mvdN l psi n, x ≤ y + 1 := by
  have h := List.all_eq_true.1 (List.all_eq_true.1 even_check (l - 1) (List.mem_range.2 (by omega))) (psi - 1) (List.mem_range.2 (by omega))
  rw [show l - 1 + 1 = l by omega, show psi - 1 + 1 = psi by omega, show l - 1 + 2 = l + 1 by omega] at h
  exact evenFrom_all l psi 120 0 h n h0 (by omega)
end Go.Proofs.Ytdgcninmpcmdcaa

/-
  RingEven: the plan; what the numbers are behind n writes.
-/
namespace Go.Proofs.Ytdgcninmpcmdcaa
open Go.RowKit
set_option linter.unusedVariables false

def smallR (x0 x1 x2 x3 : Int) : PlanR := ⟨mx x0 % 2, (1 + mx x1 % 5).toNat, mx x2 % 9, 1 + mx x3 % 4⟩
def sinceN (psi n : Nat) : Nat := if n = 0 then 0 else (n - 1) % psi + 1
theorem bef_step (psi n : Nat) (h1 : 1 ≤ psi) :
    (psi ≤ sinceN psi n → befN psi n + 1 = n / psi ∧ n % psi + 1 = 1) ∧ (sinceN psi n < psi → befN psi n = n / psi ∧ sinceN psi n + 1 = n % psi + 1) ∧ befN psi (n + 1) = n / psi ∧ sinceN psi (n + 1) = n % psi + 1 := by
  have e1 : befN psi (n + 1) = n / psi := by unfold befN; rw [if_neg (by omega), show n + 1 - 1 = n by omega]
  have e2 : sinceN psi (n + 1) = n % psi + 1 := by unfold sinceN; rw [if_neg (by omega), show n + 1 - 1 = n by omega]
  refine ⟨fun h => ?_, fun h => ?_, e1, e2⟩
  · by_cases c : n = 0
    · subst c
      have : sinceN psi 0 = 0 := rfl
      omega
    · have f1 : befN psi n = (n - 1) / psi := by unfold befN; rw [if_neg c]
      have f2 : sinceN psi n = (n - 1) % psi + 1 := by unfold sinceN; rw [if_neg c]
      rw [f2] at h
      obtain ⟨a, b⟩ := div_wrap (n - 1) psi (by omega) (by omega)
      rw [show n - 1 + 1 = n by omega] at a b
      rw [f1]
      exact ⟨a.symm, by omega⟩
  · by_cases c : n = 0
    · subst c
      have f1 : befN psi 0 = 0 := rfl
      have f2 : sinceN psi 0 = 0 := rfl
      rw [f1, f2, Nat.zero_div, Nat.zero_mod]
      exact ⟨rfl, rfl⟩
    · have f1 : befN psi n = (n - 1) / psi := by unfold befN; rw [if_neg c]
      have f2 : sinceN psi n = (n - 1) % psi + 1 := by unfold sinceN; rw [if_neg c]
      rw [f2] at h
      obtain ⟨a, b⟩ := div_next (n - 1) psi (by omega) (by omega)
      rw [show n - 1 + 1 = n by omega] at a b
      rw [f1, f2]
      exact ⟨a.symm, by omega⟩
theorem slotJ_N (P : PlanR) (j i : Nat) (h1 : 1 ≤ P.l) : slotJ P j i = ((slotN P.l j i : Nat) : Int) := by
  unfold slotJ slotI slotN sAt gAt
  have e : ((i : Int) + ((j / (P.l + 1) % P.l : Nat) : Int)) % (P.l : Int) = (((i + j / (P.l + 1) % P.l) % P.l : Nat) : Int) := by
    rw [← Int.natCast_add, Int.natCast_emod]
  rw [e]
  have h2 := Nat.mod_lt j (show 0 < P.l + 1 by omega)
  by_cases c : (i + j / (P.l + 1) % P.l) % P.l < P.l - j % (P.l + 1)
  · rw [if_pos c, if_pos (by omega)]
  · rw [if_neg c, if_neg (by omega)]
    omega
theorem gAt_N (l j : Nat) : gAt l j = ((l - j % (l + 1) : Nat) : Int) := by
  have h2 := Nat.mod_lt j (show 0 < l + 1 by omega)
  unfold gAt
  omega
def rowL (xs : List Nat) : Array Value := (xs.map fun x : Nat => Value.int .i64 (x : Int)).toArray
theorem rowL_get {xs : List Nat} {i x : Nat} (h : xs[i]? = some x) : (rowL xs)[i]? = some (.int .i64 (x : Int)) := by
  unfold rowL
  rw [List.getElem?_toArray, List.getElem?_map, h]
  rfl
theorem rowL_set (xs : List Nat) (i x : Nat) : (rowL xs).setIfInBounds i (.int .i64 (x : Int)) = rowL (xs.set i x) := by
  unfold rowL
  rw [List.setIfInBounds_toArray, List.map_set]
theorem rowL_zero (m : Nat) : rowOf (fun _ => Value.int .i64 0) m = rowL (List.replicate m 0) := by
  unfold rowL
  rw [List.map_replicate]
  apply Array.ext
  · simp [rowOf]
  · intro i h1 h2
    simp [rowOf]
theorem mvdN_len (l psi : Nat) : ∀ n, (mvdN l psi n).length = l + 1
  | 0 => by simp [mvdN]
  | n + 1 => by
    rw [mvdN]
    split
    · exact mvdN_len l psi n
    · unfold incN; rw [List.length_set]; exact mvdN_len l psi n
theorem stayN_len (l psi : Nat) : ∀ n, (stayN l psi n).length = l
  | 0 => by simp [stayN]
  | n + 1 => by rw [stayN]; unfold stepStay; simp
end Go.Proofs.Ytdgcninmpcmdcaa

/-
  RingEven: the list of stays, half done; what holds behind n writes.
-/
namespace Go.Proofs.Ytdgcninmpcmdcaa
open Go.RowKit
set_option linter.unusedVariables false

def newStay (l psi n i : Nat) (st : List Nat) : Nat := if slotN l (n / psi) i = slotN l (befN psi n) i then st.getD i 0 + 1 else 1
def stpL (l psi n : Nat) (st : List Nat) (i : Nat) : List Nat := (List.range l).map fun j => if j < i then newStay l psi n j st else st.getD j 0
theorem stpL_zero {l psi n : Nat} {st : List Nat} (h : st.length = l) : stpL l psi n st 0 = st := by
  unfold stpL
  apply List.ext_getElem (by simp [h])
  intro i h1 h2
  simp [List.getD_eq_getElem?_getD, List.getElem?_eq_getElem h2]
theorem stpL_all {l psi n : Nat} {st : List Nat} : stpL l psi n st l = stepStay l psi n st := by
  unfold stpL stepStay
  apply List.map_congr_left
  intro i hi
  rw [if_pos (List.mem_range.1 hi)]
  rfl
theorem stpL_get {l psi n i : Nat} {st : List Nat} (hi : i < l) : (stpL l psi n st i)[i]? = some (st.getD i 0) := by
  unfold stpL
  rw [List.getElem?_map, List.getElem?_range hi]
  simp
theorem stpL_get1 {l psi n i : Nat} {st : List Nat} (hi : i < l) : (stpL l psi n st (i + 1))[i]? = some (newStay l psi n i st) := by
  unfold stpL
  rw [List.getElem?_map, List.getElem?_range hi]
  simp
theorem stpL_set {l psi n i : Nat} {st : List Nat} (hi : i < l) : (stpL l psi n st i).set i (newStay l psi n i st) = stpL l psi n st (i + 1) := by
  unfold stpL
  apply List.ext_getElem (by simp)
  intro j h1 h2
  simp at h2
  rw [List.getElem_set]
  by_cases c : i = j
  · subst c
    simp
  · rw [if_neg c]
    simp only [List.getElem_map, List.getElem_range]
    by_cases d : j < i
    · rw [if_pos d, if_pos (by omega)]
    · rw [if_neg d, if_neg (by omega)]
theorem newStay_mem {l psi n i : Nat} (hi : i < l) : newStay l psi n i (stayN l psi n) ∈ stayN l psi (n + 1) := by
  rw [stayN]
  exact List.mem_map.2 ⟨i, List.mem_range.2 hi, rfl⟩
theorem getD_incN {m : List Nat} {k : Nat} (h : k < m.length) : m[k]? = some (m.getD k 0) := by
  simp [List.getD_eq_getElem?_getD, List.getElem?_eq_getElem h]
set_option maxRecDepth 100000 in
theorem st_ne (s g s' g' : Int) (m m' : Int) (h : m ≠ m') (W : World) : (binOp .neq 40 (.agg #[.int .i64 s, .int .i64 g, .int .u32 m]) (.agg #[.int .i64 s', .int .i64 g', .int .u32 m'])).run Try.prog W = .ok (.bool true) W := by
  have h2 : (m == m') = false := by simpa using h
  by_cases c : s = s'
  · by_cases d : g = g'
    · subst c; subst d
      simp [go_sem, h2]
    · subst c
      have d2 : (g == g') = false := by simpa using d
      simp [go_sem, d2]
  · have c2 : (s == s') = false := by simpa using c
    simp [go_sem, c2]
theorem slot7 {P : PlanR} (hP : OkR P) (j i : Nat) (hi : i < P.l) (W : World) : Calls Try.prog 13 #[.agg #[.int .i64 (sAt P.l j), .int .i64 (gAt P.l j), .int .u32 (j : Int)], .int .i64 (P.l : Int), .int .i64 (i : Int)] W fun e w' => e = .returned (.int .i64 ((slotN P.l j i : Nat) : Int)) ∧ Below W.heap.size W w' := by
  rw [← slotJ_N P j i hP.l1]
  exact slot_yes _ _ _ _ _ W (at_right P.l j hP.l1 hP.l2) (by omega) (by omega)
theorem getD_le {m : List Nat} {k b : Nat} (h : ∀ x ∈ m, x ≤ b) : m.getD k 0 ≤ b := by
  by_cases c : k < m.length
  · rw [List.getD_eq_getElem?_getD, List.getElem?_eq_getElem c]
    exact h _ (List.getElem_mem c)
  · simp [List.getD_eq_getElem?_getD, List.getElem?_eq_none (by omega : m.length ≤ k)]
theorem mvdN_le (l psi : Nat) : ∀ n, ∀ x ∈ mvdN l psi n, x ≤ n
  | 0, x, h => by rw [mvdN] at h; have := List.eq_of_mem_replicate h; omega
  | n + 1, x, h => by
    rw [mvdN] at h
    split at h
    · have := mvdN_le l psi n x h; omega
    · rcases List.mem_or_eq_of_mem_set h with q | q
      · have := mvdN_le l psi n x q; omega
      · have := getD_le (k := l - befN psi n % (l + 1)) (mvdN_le l psi n); omega
theorem stayN_le (l psi : Nat) : ∀ n, ∀ x ∈ stayN l psi n, x ≤ n
  | 0, x, h => by rw [stayN] at h; have := List.eq_of_mem_replicate h; omega
  | n + 1, x, h => by
    rw [stayN] at h
    obtain ⟨i, _, q⟩ := List.mem_map.1 h
    split at q
    · have := getD_le (k := i) (stayN_le l psi n); omega
    · omega
/-- Behind n writes. -/
structure Evn (w : World) (kb pb mb sb lb : Nat) (q : BkA) (a : DevA) (P : PlanR) (psi n : Nat) (D : DevS) (wr : World) : Prop where
  dev : DevIs wr a D
  rg : RgIs wr kb q a P B0 (64 + 192 * n) (befN psi n) (sinceN psi n)
  plan : Holds wr pb #[.int .i64 P.a, .int .i64 (P.l : Int), .int .i64 0, .int .i64 P.psi] 25
  gr : Gr [] w wr
  bd : Bd D (12000 + 4200 * n)
  mv : Holds wr mb (rowL (mvdN P.l psi n)) 3
  sy : Holds wr sb (rowL (stayN P.l psi n)) 3
  ls : Holds wr lb #[.int .i64 (sAt P.l (befN psi n)), .int .i64 (gAt P.l (befN psi n)), .int .u32 ((befN psi n : Nat) : Int)] 40
  gd : GdR P D (befN psi n)
  dn : D.n = 20
theorem Evn.next0 {w wr w2 : World} {kb pb mb sb lb : Nat} {q : BkA} {a : DevA} {P : PlanR} {psi n : Nat} {D : DevS} (h : Evn w kb pb mb sb lb q a P psi n D wr) (g : Gr [] wr w2) : Evn w kb pb mb sb lb q a P psi n D w2 :=
  ⟨h.dev.gr0 g, h.rg.gr0 g, h.plan.gr0 g, h.gr.trans g, h.bd, h.mv.gr0 g, h.sy.gr0 g, h.ls.gr0 g, h.gd, h.dn⟩
/-- Within the turn of write n, behind the write: with so much of the two lists done; J moves are done, b were before it. -/
structure Evm (w : World) (kb pb mb sb lb bb : Nat) (q : BkA) (a : DevA) (P : PlanR) (n J b c : Nat) (D : DevS) (ms ss : List Nat) (wr : World) : Prop where
  dev : DevIs wr a D
  rg : RgIs wr kb q a P B0 (64 + 192 * n + 192) J c
  plan : Holds wr pb #[.int .i64 P.a, .int .i64 (P.l : Int), .int .i64 0, .int .i64 P.psi] 25
  gr : Gr [] w wr
  mv : Holds wr mb (rowL ms) 3
  sy : Holds wr sb (rowL ss) 3
  ls : Holds wr lb #[.int .i64 (sAt P.l b), .int .i64 (gAt P.l b), .int .u32 (b : Int)] 40
  bf : Holds wr bb #[.int .i64 (sAt P.l b), .int .i64 (gAt P.l b), .int .u32 (b : Int)] 40
section
variable {w wr w2 : World} {kb pb mb sb lb bb : Nat} {q : BkA} {a : DevA} {P : PlanR} {n J b c : Nat} {D : DevS} {ms ss : List Nat}
theorem Evm.next0 (h : Evm w kb pb mb sb lb bb q a P n J b c D ms ss wr) (g : Gr [] wr w2) : Evm w kb pb mb sb lb bb q a P n J b c D ms ss w2 :=
  ⟨h.dev.gr0 g, h.rg.gr0 g, h.plan.gr0 g, h.gr.trans g, h.mv.gr0 g, h.sy.gr0 g, h.ls.gr0 g, h.bf.gr0 g⟩
theorem Evm.setM (h : Evm w kb pb mb sb lb bb q a P n J b c D ms ss wr) (k x : Nat) (h1 : w.heap.size ≤ mb ∧ mb ≠ pb ∧ mb ∉ kb :: (q.all ++ a.all)) (h2 : sb ≠ mb) (h3 : lb ≠ mb) (h4 : bb ≠ mb) : Evm w kb pb mb sb lb bb q a P n J b c D (ms.set k x) ss (wr.setCell ⟨mb, k, none⟩ (.int .i64 (x : Int))) := by
  have g : Gr [mb] wr (wr.setCell ⟨mb, k, none⟩ (.int .i64 (x : Int))) := (Gr.refl [mb] wr).setCell (.inl (by simp)) _
  have hq : ∀ y ∈ kb :: (q.all ++ a.all), y ≠ mb := fun y hy e => h1.2.2 (e ▸ hy)
  exact ⟨h.dev.gr g (fun y hy e => hq y (by simp [hy]) (by simpa using e)), h.rg.gr g (fun e => hq kb (by simp) (by simpa using e)) (fun y hy e => hq y (by simp [hy]) (by simpa using e)), h.plan.gr g (by simp; exact fun e => h1.2.1 e.symm), h.gr.setCell (.inr h1.1) _, by rw [← rowL_set]; exact h.mv.set k _, h.sy.gr g (by simp; exact h2), h.ls.gr g (by simp; exact h3), h.bf.gr g (by simp; exact h4)⟩
theorem Evm.setS (h : Evm w kb pb mb sb lb bb q a P n J b c D ms ss wr) (k x : Nat) (h1 : w.heap.size ≤ sb ∧ sb ≠ pb ∧ sb ∉ kb :: (q.all ++ a.all)) (h2 : mb ≠ sb) (h3 : lb ≠ sb) (h4 : bb ≠ sb) : Evm w kb pb mb sb lb bb q a P n J b c D ms (ss.set k x) (wr.setCell ⟨sb, k, none⟩ (.int .i64 (x : Int))) := by
  have g : Gr [sb] wr (wr.setCell ⟨sb, k, none⟩ (.int .i64 (x : Int))) := (Gr.refl [sb] wr).setCell (.inl (by simp)) _
  have hq : ∀ y ∈ kb :: (q.all ++ a.all), y ≠ sb := fun y hy e => h1.2.2 (e ▸ hy)
  exact ⟨h.dev.gr g (fun y hy e => hq y (by simp [hy]) (by simpa using e)), h.rg.gr g (fun e => hq kb (by simp) (by simpa using e)) (fun y hy e => hq y (by simp [hy]) (by simpa using e)), h.plan.gr g (by simp; exact fun e => h1.2.1 e.symm), h.gr.setCell (.inr h1.1) _, h.mv.gr g (by simp; exact h2), by rw [← rowL_set]; exact h.sy.set k _, h.ls.gr g (by simp; exact h3), h.bf.gr g (by simp; exact h4)⟩
end
/-- The turn's end: last is the state of now. -/
theorem evn_next {w wr : World} {kb pb mb sb lb bb : Nat} {q : BkA} {a : DevA} {P : PlanR} {psi n J b : Nat} {D : DevS} (h : Evm w kb pb mb sb lb bb q a P n J b (n % psi + 1) D (mvdN P.l psi (n + 1)) (stpL P.l psi n (stayN P.l psi n) P.l) wr)
    (h1 : befN psi (n + 1) = J) (h2 : sinceN psi (n + 1) = n % psi + 1) (hb : Bd D (12000 + 4200 * n + 4200)) (hg : GdR P D J) (hn : D.n = 20)
    (hl : w.heap.size ≤ lb ∧ lb ≠ pb ∧ lb ∉ kb :: (q.all ++ a.all) ∧ lb ≠ mb ∧ lb ≠ sb) (ho : w.heap.size ≤ pb ∧ w.heap.size ≤ mb ∧ w.heap.size ≤ sb) (hs : stpL P.l psi n (stayN P.l psi n) P.l = stepStay P.l psi n (stayN P.l psi n)) :
    Evn w kb pb mb sb lb q a P psi (n + 1) D (((wr.setCell ⟨lb, 0, none⟩ (.int .i64 (sAt P.l J))).setCell ⟨lb, 1, none⟩ (.int .i64 (gAt P.l J))).setCell ⟨lb, 2, none⟩ (.int .u32 (J : Int))) := by
  have g : Gr [lb] wr (((wr.setCell ⟨lb, 0, none⟩ (.int .i64 (sAt P.l J))).setCell ⟨lb, 1, none⟩ (.int .i64 (gAt P.l J))).setCell ⟨lb, 2, none⟩ (.int .u32 (J : Int))) := (((Gr.refl [lb] wr).setCell (.inl (by simp)) _).setCell (.inl (by simp)) _).setCell (.inl (by simp)) _
  have hq : ∀ y ∈ kb :: (q.all ++ a.all), y ≠ lb := fun y hy e => hl.2.2.1 (e ▸ hy)
  refine ⟨h.dev.gr g (fun y hy e => hq y (by simp [hy]) (by simpa using e)), ?_, h.plan.gr g (by simp; exact fun e => hl.2.1 e.symm), ((h.gr.setCell (.inr hl.1) _).setCell (.inr hl.1) _).setCell (.inr hl.1) _, hb.mono (by omega), h.mv.gr g (by simp; exact fun e => hl.2.2.2.1 e.symm), ?_, ?_, by rw [h1]; exact hg, hn⟩
  · rw [h1, h2, show 64 + 192 * (n + 1) = 64 + 192 * n + 192 by omega]
    exact h.rg.gr g (fun e => hq kb (by simp) (by simpa using e)) (fun y hy e => hq y (by simp [hy]) (by simpa using e))
  · rw [stayN, ← hs]
    exact h.sy.gr g (by simp; exact fun e => hl.2.2.2.2 e.symm)
  · rw [h1]
    exact ((h.ls.set 0 _).set 1 _).set 2 _
end Go.Proofs.Ytdgcninmpcmdcaa
