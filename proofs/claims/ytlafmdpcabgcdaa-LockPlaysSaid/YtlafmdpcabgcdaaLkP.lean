/-
  Locks as functions: who holds a lock, what a client still wants; lists that rise.
-/
import Derived.WalkKit
namespace Go.Proofs.Ytlafmdpcabgcdaa

/-- A list that rises, each once. -/
def Rise (l : List Int) : Prop := l.Pairwise (· < ·)
theorem Rise.uniq {l m : List Int} (h : Rise l) (k : Rise m) (hm : ∀ x, x ∈ l ↔ x ∈ m) : l = m := by
  induction l generalizing m with
  | nil =>
    cases m with
    | nil => rfl
    | cons y r => have := (hm y).2 (by simp); cases this
  | cons x r ih =>
    cases m with
    | nil => have := (hm x).1 (by simp); cases this
    | cons y s =>
      obtain ⟨h1, h2⟩ := List.pairwise_cons.1 h
      obtain ⟨k1, k2⟩ := List.pairwise_cons.1 k
      have e : x = y := by
        have a := (hm x).1 (by simp)
        have b := (hm y).2 (by simp)
        rcases List.mem_cons.1 a with a | a
        · exact a
        · rcases List.mem_cons.1 b with b | b
          · exact b.symm
          · have := k1 x a; have := h1 y b; omega
      subst e
      congr 1
      refine ih h2 k2 fun z => ?_
      constructor
      · intro hz
        rcases List.mem_cons.1 ((hm z).1 (by simp [hz])) with q | q
        · subst q; have := h1 z hz; omega
        · exact q
      · intro hz
        rcases List.mem_cons.1 ((hm z).2 (by simp [hz])) with q | q
        · subst q; have := k1 z hz; omega
        · exact q
theorem Rise.tail {x : Int} {l : List Int} (h : Rise (x :: l)) : Rise l := (List.pairwise_cons.1 h).2
theorem Rise.head {x : Int} {l : List Int} (h : Rise (x :: l)) : ∀ y ∈ l, x < y := (List.pairwise_cons.1 h).1
theorem Rise.nil : Rise [] := List.Pairwise.nil
theorem Rise.sorted {l : List Int} (h : Rise l) : l.Pairwise (· ≤ ·) := h.imp fun h => by omega
/-- A list that rises is as long as it has different elements: at most as many as a list with all of them. -/
theorem Rise.len_le {l m : List Int} (h : Rise l) (hs : ∀ x ∈ l, x ∈ m) : l.length ≤ m.length := by
  have nd : l.Nodup := h.imp fun h => by omega
  exact nd.length_le_of_subset hs

/-! ### Who has what -/
structure LkS where
  H : Int → Option Nat
  W : Nat → List Int
structure LkOk (n : Nat) (S : LkS) : Prop where
  holder : ∀ x c, S.H x = some c → c < n
  above : ∀ c x y, S.H x = some c → y ∈ S.W c → x < y
  rise : ∀ c, Rise (S.W c)
  out : ∀ c, n ≤ c → S.W c = []
def noneS : LkS := ⟨fun _ => none, fun _ => []⟩
def setH (H : Int → Option Nat) (x : Int) (c : Nat) : Int → Option Nat := fun y => if y = x then some c else H y
def setW (W : Nat → List Int) (c : Nat) (l : List Int) : Nat → List Int := fun d => if d = c then l else W d
def stepL (S : LkS) (c : Nat) : LkS :=
  match S.W c with
  | [] => S
  | x :: r => if S.H x = none then ⟨setH S.H x c, setW S.W c r⟩ else S
def dropL (S : LkS) (c : Nat) : LkS := ⟨fun x => if S.H x = some c then none else S.H x, setW S.W c []⟩
def askL (S : LkS) (c : Nat) (l : List Int) : LkS := ⟨S.H, setW S.W c l⟩
/-- For whom a client waits. -/
def waitL (S : LkS) (c : Nat) : Option Nat := match S.W c with | [] => none | x :: _ => S.H x
def waitZ (S : LkS) (c : Nat) : Int := match waitL S c with | none => -1 | some d => d
theorem setW_same (W : Nat → List Int) (c : Nat) (l : List Int) : setW W c l c = l := by simp [setW]
theorem setW_ne (W : Nat → List Int) (c d : Nat) (l : List Int) (h : d ≠ c) : setW W c l d = W d := by simp [setW, h]
theorem noneS_ok (n : Nat) : LkOk n noneS where
  holder := fun x c h => by cases h
  above := fun c x y h => by cases h
  rise := fun c => Rise.nil
  out := fun c _ => rfl
theorem LkOk.step {n : Nat} {S : LkS} (h : LkOk n S) {c : Nat} (hc : c < n) : LkOk n (stepL S c) := by
  unfold stepL
  split
  · exact h
  · rename_i x r e
    split
    · rename_i hx
      have hr := h.rise c
      rw [e] at hr
      refine ⟨fun y d hy => ?_, fun d y z hy hz => ?_, fun d => ?_, fun d hd => ?_⟩
      · simp only [setH] at hy
        split at hy
        · injection hy with hy; omega
        · exact h.holder y d hy
      · simp only [setH] at hy
        simp only [setW] at hz
        split at hy
        · rename_i ey
          injection hy with hy
          subst hy ey
          rw [if_pos rfl] at hz
          exact hr.head z hz
        · split at hz
          · rename_i ed
            subst ed
            exact h.above _ y z hy (by rw [e]; simp [hz])
          · exact h.above d y z hy hz
      · simp only [setW]
        split
        · exact hr.tail
        · exact h.rise d
      · simp only [setW]
        rw [if_neg (by omega)]
        exact h.out d hd
    · exact h
theorem LkOk.drop {n : Nat} {S : LkS} (h : LkOk n S) (c : Nat) : LkOk n (dropL S c) := by
  refine ⟨fun y d hy => ?_, fun d y z hy hz => ?_, fun d => ?_, fun d hd => ?_⟩
  · simp only [dropL] at hy
    split at hy
    · cases hy
    · exact h.holder y d hy
  · simp only [dropL] at hy
    simp only [dropL, setW] at hz
    split at hy
    · cases hy
    · split at hz
      · cases hz
      · exact h.above d y z hy hz
  · simp only [dropL, setW]
    split
    · exact Rise.nil
    · exact h.rise d
  · simp only [dropL, setW]
    split
    · rfl
    · exact h.out d hd
theorem LkOk.ask {n : Nat} {S : LkS} (h : LkOk n S) {c : Nat} (hc : c < n) {l : List Int} (hl : Rise l) (ha : ∀ x y, S.H x = some c → y ∈ l → x < y) : LkOk n (askL S c l) := by
  refine ⟨h.holder, fun d y z hy hz => ?_, fun d => ?_, fun d hd => ?_⟩
  · simp only [askL, setW] at hz
    simp only [askL] at hy
    split at hz
    · rename_i e; subst e; exact ha y z hy hz
    · exact h.above d y z hy hz
  · simp only [askL, setW]
    split
    · exact hl
    · exact h.rise d
  · simp only [askL, setW]
    rw [if_neg (by omega)]
    exact h.out d hd
theorem waitL_lt {n : Nat} {S : LkS} (h : LkOk n S) {c d : Nat} (hw : waitL S c = some d) : d < n := by
  unfold waitL at hw
  split at hw
  · cases hw
  · exact h.holder _ _ hw

/-! ### No round -/
/-- On the way from c, k steps on, at d. -/
def Way (n : Nat) (S : LkS) (k d : Nat) : Prop := d < n ∧ ∃ V : List Nat, V.length = k ∧ V.Nodup ∧ (∀ v ∈ V, v < n) ∧ d ∉ V ∧ ∀ v ∈ V, ∃ y r, S.W v = y :: r ∧ ∀ z t, S.W d = z :: t → y < z
theorem Way.start {n : Nat} (S : LkS) {c : Nat} (hc : c < n) : Way n S 0 c := ⟨hc, [], rfl, List.nodup_nil, by simp, by simp, by simp⟩
theorem Way.le {n : Nat} {S : LkS} {k d : Nat} (h : Way n S k d) : k < n := by
  obtain ⟨h1, V, h2, h3, h4, h5, _⟩ := h
  have nd : (d :: V).Nodup := List.nodup_cons.2 ⟨h5, h3⟩
  have := nd.length_le_of_subset (l₂ := List.range n) (fun x hx => by
    rw [List.mem_range]
    rcases List.mem_cons.1 hx with q | q
    · omega
    · exact h4 x q)
  simp at this
  omega
theorem Way.ne {n : Nat} {S : LkS} {k d e : Nat} (hS : LkOk n S) (_h : Way n S k d) (hw : waitL S d = some e) : e ≠ d := by
  intro q
  subst q
  unfold waitL at hw
  split at hw
  · cases hw
  · rename_i x r ex
    have := hS.above e x x hw (by rw [ex]; simp)
    omega
theorem Way.next {n : Nat} {S : LkS} {k d e : Nat} (hS : LkOk n S) (h : Way n S k d) (hw : waitL S d = some e) : Way n S (k + 1) e := by
  have hne := h.ne hS hw
  have he := waitL_lt hS hw
  obtain ⟨h1, V, h2, h3, h4, h5, h6⟩ := h
  unfold waitL at hw
  split at hw
  · cases hw
  · rename_i x r ex
    refine ⟨he, d :: V, by simp [h2], List.nodup_cons.2 ⟨h5, h3⟩, fun v hv => ?_, fun hm => ?_, fun v hv => ?_⟩
    · rcases List.mem_cons.1 hv with q | q
      · omega
      · exact h4 v q
    · rcases List.mem_cons.1 hm with q | q
      · exact hne q
      · obtain ⟨y, s, hy, hz⟩ := h6 e q
        have a := hz x r ex
        have b := hS.above e x y hw (by rw [hy]; simp)
        omega
    · rcases List.mem_cons.1 hv with q | q
      · subst q
        refine ⟨x, r, ex, fun z t hz => hS.above e x z hw (by rw [hz]; simp)⟩
      · obtain ⟨y, s, hy, hz⟩ := h6 v q
        refine ⟨y, s, hy, fun z t hzt => ?_⟩
        have a := hz x r ex
        have b := hS.above e x z hw (by rw [hzt]; simp)
        omega

/-! ### Each has all at some time -/
def totL (S : LkS) : Nat → Nat
  | 0 => 0
  | c + 1 => totL S c + (S.W c).length
def actL (S : LkS) (c : Nat) : LkS := if (stepL S c).W c = [] then dropL (stepL S c) c else stepL S c
theorem stepL_W (S : LkS) (c d : Nat) (h : d ≠ c) : (stepL S c).W d = S.W d := by
  unfold stepL
  split
  · rfl
  · split
    · exact setW_ne _ _ _ _ h
    · rfl
theorem actL_W (S : LkS) (c d : Nat) (h : d ≠ c) : (actL S c).W d = S.W d := by
  unfold actL
  split
  · rw [show (dropL (stepL S c) c).W d = (stepL S c).W d from setW_ne _ _ _ _ h, stepL_W S c d h]
  · exact stepL_W S c d h
theorem LkOk.act {n : Nat} {S : LkS} (h : LkOk n S) {c : Nat} (hc : c < n) : LkOk n (actL S c) := by
  unfold actL
  split
  · exact (h.step hc).drop c
  · exact h.step hc
/-- Nothing is held by who wants nothing. -/
def cleanL (S : LkS) (c : Nat) : Prop := S.W c = [] → ∀ x, S.H x ≠ some c
theorem act_clean (S : LkS) (c : Nat) : cleanL (actL S c) c := by
  intro hw x hx
  unfold actL at hw hx
  split at hx
  · simp only [dropL] at hx
    split at hx
    · cases hx
    · contradiction
  · rename_i q
    rw [if_neg q] at hw
    exact q hw
theorem act_keeps (S : LkS) (c d : Nat) (h : d ≠ c) (hd : cleanL S d) : cleanL (actL S c) d := by
  intro hw x hx
  rw [actL_W S c d h] at hw
  refine hd hw x ?_
  have hs : (stepL S c).H x = some d → S.H x = some d := by
    unfold stepL
    split
    · exact id
    · split
      · simp only [setH]
        split
        · intro e; injection e with e; exact absurd e.symm h
        · exact id
      · exact id
  unfold actL at hx
  split at hx
  · simp only [dropL] at hx
    split at hx
    · cases hx
    · exact hs hx
  · exact hs hx
/-- The act of one client: it wants less, or all is as it was. -/
theorem act_less {S : LkS} {c : Nat} (hc : cleanL S c) : ((actL S c).W c).length < (S.W c).length ∨ (actL S c = S ∧ ∀ x r, S.W c = x :: r → ∃ d, S.H x = some d) := by
  cases e : S.W c with
  | nil =>
    right
    have h1 : stepL S c = S := by unfold stepL; rw [e]
    refine ⟨?_, fun x r h => by cases h⟩
    unfold actL
    rw [h1, if_pos e]
    unfold dropL
    have hH : (fun x => if S.H x = some c then none else S.H x) = S.H := by
      funext x
      rw [if_neg (hc e x)]
    have hW : setW S.W c [] = S.W := by
      funext d
      unfold setW
      split
      · rename_i q; rw [q, e]
      · rfl
    rw [hH, hW]
  | cons x r =>
    cases q : S.H x with
    | none =>
      left
      have h1 : (stepL S c).W c = r := by
        unfold stepL
        rw [e]
        simp only
        rw [if_pos q]
        exact setW_same _ _ _
      unfold actL
      split
      · show (setW _ c [] c).length < _
        rw [setW_same]; simp
      · rw [h1]; simp
    | some d =>
      right
      have h1 : stepL S c = S := by
        unfold stepL
        rw [e]
        simp only
        rw [if_neg (by rw [q]; exact fun h => by cases h)]
      refine ⟨?_, fun y s h => by injection h with h1 h2; subst h1; exact ⟨d, q⟩⟩
      unfold actL
      rw [h1, if_neg (by rw [e]; exact fun h => by cases h)]
theorem act_le (S : LkS) (c : Nat) : ((actL S c).W c).length ≤ (S.W c).length := by
  have h1 : ((stepL S c).W c).length ≤ (S.W c).length := by
    unfold stepL
    split
    · exact Nat.le_refl _
    · rename_i x r e
      split
      · rw [show (⟨setH S.H x c, setW S.W c r⟩ : LkS).W c = r from setW_same _ _ _, e]; simp
      · exact Nat.le_refl _
  unfold actL
  split
  · show (setW _ c [] c).length ≤ _
    rw [setW_same]; simp
  · exact h1
theorem tot_act (S : LkS) (c n : Nat) : totL (actL S c) n + (if c < n then (S.W c).length else 0) = totL S n + (if c < n then ((actL S c).W c).length else 0) := by
  induction n with
  | zero => simp [totL]
  | succ n ih =>
    simp only [totL]
    by_cases e : n = c
    · subst e
      rw [if_pos (by omega), if_pos (by omega)]
      rw [if_neg (by omega), if_neg (by omega)] at ih
      omega
    · rw [actL_W S c n e]
      by_cases q : c < n
      · rw [if_pos (by omega), if_pos (by omega)]
        rw [if_pos q, if_pos q] at ih
        omega
      · rw [if_neg (by omega), if_neg (by omega)]
        rw [if_neg q, if_neg q] at ih
        omega
theorem tot_zero {S : LkS} {n : Nat} (h : totL S n = 0) : ∀ c, c < n → S.W c = [] := by
  induction n with
  | zero => intro c hc; omega
  | succ n ih =>
    simp only [totL] at h
    intro c hc
    by_cases e : c = n
    · subst e; exact List.length_eq_zero_iff.1 (by omega)
    · exact ih (by omega) c (by omega)
/-- Where nobody gets on, nobody wants anything. -/
theorem stuck_none {n : Nat} {S : LkS} (hS : LkOk n S) (hc : ∀ c, c < n → cleanL S c) (hh : ∀ c, c < n → ∀ x r, S.W c = x :: r → ∃ d, S.H x = some d) : ∀ c, c < n → S.W c = [] := by
  intro c hcn
  cases e : S.W c with
  | nil => rfl
  | cons x r =>
    exfalso
    -- the way from c never ends
    have go : ∀ k, ∃ d, Way n S k d ∧ ∃ y s, S.W d = y :: s := by
      intro k
      induction k with
      | zero => exact ⟨c, Way.start S hcn, x, r, e⟩
      | succ k ih =>
        obtain ⟨d, hd, y, s, hy⟩ := ih
        obtain ⟨f, hf⟩ := hh d hd.1 y s hy
        have hw : waitL S d = some f := by unfold waitL; rw [hy]; exact hf
        have hn := hd.next hS hw
        refine ⟨f, hn, ?_⟩
        cases q : S.W f with
        | nil => exact absurd hf (hc f hn.1 q y)
        | cons z t => exact ⟨z, t, rfl⟩
    obtain ⟨d, hd, _⟩ := go n
    have := hd.le
    omega

/-- A round of acts, as far as client j: from S0. -/
structure RoundL (n : Nat) (S0 : LkS) (j : Nat) (S : LkS) : Prop where
  ok : LkOk n S
  le : totL S n ≤ totL S0 n
  clean : ∀ c, c < j → cleanL S c
  keep : (∀ c, c < n → cleanL S0 c) → (∀ c, c < n → cleanL S c) ∧ (totL S n < totL S0 n ∨ (S = S0 ∧ ∀ c, c < j → ∀ x r, S0.W c = x :: r → ∃ d, S0.H x = some d))
theorem RoundL.start {n : Nat} {S : LkS} (h : LkOk n S) : RoundL n S 0 S := ⟨h, Nat.le_refl _, fun c hc => by omega, fun hc => ⟨hc, .inr ⟨rfl, fun c hc => by omega⟩⟩⟩
theorem RoundL.next {n : Nat} {S0 S : LkS} {j : Nat} (h : RoundL n S0 j S) (hj : j < n) : RoundL n S0 (j + 1) (actL S j) := by
  have t := tot_act S j n
  rw [if_pos hj, if_pos hj] at t
  have l := act_le S j
  refine ⟨h.ok.act hj, by have := h.le; omega, fun c hc => ?_, fun hc0 => ?_⟩
  · by_cases e : c = j
    · subst e; exact act_clean S c
    · exact act_keeps S j c e (h.clean c (by omega))
  · obtain ⟨k1, k2⟩ := h.keep hc0
    refine ⟨fun c hc => ?_, ?_⟩
    · by_cases e : c = j
      · subst e; exact act_clean S c
      · exact act_keeps S j c e (k1 c hc)
    · rcases k2 with k2 | ⟨k2, k3⟩
      · left; omega
      · rcases act_less (k1 j hj) with q | ⟨q1, q2⟩
        · left; have := h.le; omega
        · right
          subst k2
          refine ⟨q1, fun c hc x r hx => ?_⟩
          by_cases e : c = j
          · subst e; exact q2 x r hx
          · exact k3 c (by omega) x r hx
theorem RoundL.fin {n : Nat} {S0 S : LkS} (h : RoundL n S0 n S) (hS : LkOk n S0) (hc : ∀ c, c < n → cleanL S0 c) : totL S n < totL S0 n ∨ totL S n = 0 := by
  obtain ⟨k1, k2⟩ := h.keep hc
  rcases k2 with k2 | ⟨k2, k3⟩
  · exact .inl k2
  · right
    subst k2
    have z := stuck_none hS hc k3
    have : ∀ m, m ≤ n → totL S m = 0 := by
      intro m
      induction m with
      | zero => intro _; rfl
      | succ m ih => intro hm; simp only [totL]; rw [ih (by omega), z m (by omega)]; rfl
    exact this n (Nat.le_refl _)

end Go.Proofs.Ytlafmdpcabgcdaa
