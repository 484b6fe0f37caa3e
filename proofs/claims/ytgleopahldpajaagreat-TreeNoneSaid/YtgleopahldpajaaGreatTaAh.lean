/-
  TaAh: TrP, TrA.
-/
import Derived.Test.YtgleopahldpajaaGreatTaAe
import Derived.Test.YtgleopahldpajaaGreatTaAg
import Derived.Test.YtgleopahldpajaaGreatTaAa
import Derived.WideKeyArr
import Derived.Sort.KeysCollected

set_option linter.unusedVariables false

/-
  Layer 19 (tree), pure: inodes and names as plain data; what is so of every tree, and stays so.
-/
namespace Go.Proofs.YtgleopahldpajaaGreat
open Go.RowKit
set_option linter.unusedVariables false

/-! ### The tree as plain data -/
/-- An inode. -/
structure NdZ where
  k : Nat
  l : Nat
  s : Int
  b : List (Int × Int)
  t : ByteArray
  up : Int
  pin : Nat
/-- A name: in which directory, the name, whose. -/
abbrev NmZ := Int × ByteArray × Nat
/-- A tree: inodes, names, the names and the inodes that were changed. -/
structure TrZ where
  T : Int → Option NdZ
  nm : List NmZ
  sp : Int → ByteArray → Bool
  sn : Int → Bool
def isAt (n : Int) (s : ByteArray) (x : NmZ) : Bool := decide (x.1 = n ∧ x.2.1 = s)
/-- What has a name. -/
def lkN (nm : List NmZ) (n : Int) (s : ByteArray) : Option Nat := (nm.find? (isAt n s)).map (·.2.2)
/-- The names of a directory. -/
def nmsOf (nm : List NmZ) (n : Int) : List ByteArray := (nm.filter fun x => decide (x.1 = n)).map (·.2.1)
def dirAt (T : Int → Option NdZ) (n : Int) : Bool := match T n with | some x => decide (x.k = 2) | none => false
/-- How many names an inode has; how many Dirs a Dir has in it. -/
def hasNm (nm : List NmZ) (n : Int) : Nat := nm.countP fun x => decide ((x.2.2 : Int) = n)
def dirsIn (T : Int → Option NdZ) (nm : List NmZ) (n : Int) : Nat := nm.countP fun x => decide (x.1 = n) && dirAt T x.2.2
def updN (T : Int → Option NdZ) (n : Int) (v : Option NdZ) : Int → Option NdZ := fun y => if y = n then v else T y
theorem updN_same (T : Int → Option NdZ) (n : Int) (v : Option NdZ) : updN T n v n = v := if_pos rfl
theorem updN_far {T : Int → Option NdZ} {n m : Int} {v : Option NdZ} (h : m ≠ n) : updN T n v m = T m := if_neg h
/-- What is so of every tree, also within a call. -/
structure TrO (T : Int → Option NdZ) (nm : List NmZ) : Prop where
  root : ∃ x, T 1 = some x ∧ x.k = 2 ∧ 2 ≤ x.l ∧ x.up = 1
  rng : ∀ n x, T n = some x → 1 ≤ n ∧ n ≤ 1024
  right : ∀ n x, T n = some x → Right16 x.k x.l x.s x.b x.t
  nd : (nm.map fun x => (x.1, x.2.1)).Nodup
  nms : ∀ x ∈ nm, nameP x.2.1.data.toList = true ∧ (x.2.2 : Int) ≠ 1 ∧ (∃ d, T x.1 = some d ∧ d.k = 2 ∧ 2 ≤ d.l) ∧ ∃ y, T x.2.2 = some y ∧ (y.k = 2 → y.up = x.1 ∧ 2 ≤ y.l)
  links : ∀ n x, T n = some x → x.k ≠ 2 → x.l = hasNm nm n
  dirs : ∀ n x, T n = some x → x.k = 2 → x.l ≠ 0 → x.l = 2 + dirsIn T nm n
  one : ∀ n x, T n = some x → x.k = 2 → x.l ≠ 0 → n ≠ 1 → hasNm nm n = 1
  dep : ∃ d : Int → Nat, ∀ n x, T n = some x → x.k = 2 → x.l ≠ 0 → n ≠ 1 → d x.up < d n
/-- What is so of every tree. -/
structure TrOk (T : Int → Option NdZ) (nm : List NmZ) : Prop extends TrO T nm where
  dead : ∀ n x, T n = some x → x.l = 0 → x.pin ≠ 0
section
variable {T : Int → Option NdZ} {nm : List NmZ} {n m : Int} {s u : ByteArray} {v : Nat} {x : NmZ}
theorem isAt_iff : isAt n s x = true ↔ x.1 = n ∧ x.2.1 = s := decide_eq_true_iff
theorem lkN_some (h : lkN nm n s = some v) : (n, s, v) ∈ nm := by
  unfold lkN at h
  rw [Option.map_eq_some_iff] at h
  obtain ⟨a, h1, h2⟩ := h
  have h3 := List.find?_some h1
  obtain ⟨e1, e2⟩ := isAt_iff.1 h3
  have h4 := List.mem_of_find?_eq_some h1
  rw [← e1, ← e2, ← h2]
  exact h4
theorem lkN_none (h : lkN nm n s = none) : ∀ x ∈ nm, ¬ (x.1 = n ∧ x.2.1 = s) := by
  unfold lkN at h
  rw [Option.map_eq_none_iff, List.find?_eq_none] at h
  exact fun x hx e => h x hx (isAt_iff.2 e)
theorem nd_inj : ∀ {nm : List NmZ}, (nm.map fun x => (x.1, x.2.1)).Nodup → ∀ {x y : NmZ}, x ∈ nm → y ∈ nm → x.1 = y.1 → x.2.1 = y.2.1 → x = y
  | [], _, _, _, hx, _, _, _ => by cases hx
  | z :: nm, h, x, y, hx, hy, h1, h2 => by
    rw [List.map_cons, List.nodup_cons] at h
    rcases List.mem_cons.1 hx with ex | hx'
    · rcases List.mem_cons.1 hy with ey | hy'
      · rw [ex, ey]
      · exact absurd (show (z.1, z.2.1) ∈ nm.map fun x => (x.1, x.2.1) from List.mem_map.2 ⟨y, hy', show (y.1, y.2.1) = (z.1, z.2.1) by rw [← ex, h1, h2]⟩) h.1
    · rcases List.mem_cons.1 hy with ey | hy'
      · exact absurd (show (z.1, z.2.1) ∈ nm.map fun x => (x.1, x.2.1) from List.mem_map.2 ⟨x, hx', show (x.1, x.2.1) = (z.1, z.2.1) by rw [← ey, h1, h2]⟩) h.1
      · exact nd_inj h.2 hx' hy' h1 h2
theorem lkN_of (h : (nm.map fun x => (x.1, x.2.1)).Nodup) (hx : (n, s, v) ∈ nm) : lkN nm n s = some v := by
  cases c : lkN nm n s with
  | none => exact absurd ⟨rfl, rfl⟩ (lkN_none c _ hx)
  | some w =>
    have := nd_inj h hx (lkN_some c) rfl rfl
    injection this with _ this
    injection this with _ this
    rw [this]
theorem lkN_put (nm : List NmZ) (n : Int) (s : ByteArray) (v : Nat) (h : lkN nm n s = none) (m : Int) (u : ByteArray) : lkN (nm ++ [(n, s, v)]) m u = if m = n ∧ u = s then some v else lkN nm m u := by
  unfold lkN
  rw [List.find?_append]
  by_cases c : m = n ∧ u = s
  · obtain ⟨rfl, rfl⟩ := c
    rw [if_pos ⟨rfl, rfl⟩]
    unfold lkN at h
    rw [Option.map_eq_none_iff] at h
    rw [h]
    simp [isAt]
  · rw [if_neg c]
    have : isAt m u (n, s, v) = false := by rw [← Bool.not_eq_true, isAt_iff]; exact fun q => c ⟨q.1.symm, q.2.symm⟩
    simp [this]
theorem mem_nmsOf (hn : (nm.map fun x => (x.1, x.2.1)).Nodup) : s ∈ nmsOf nm n ↔ (lkN nm n s).isSome = true := by
  unfold nmsOf
  rw [List.mem_map]
  constructor
  · rintro ⟨x, hx, rfl⟩
    rw [List.mem_filter, decide_eq_true_iff] at hx
    obtain ⟨h1, rfl⟩ := hx
    rw [lkN_of (v := x.2.2) hn h1]; rfl
  · intro h
    obtain ⟨v, hv⟩ := Option.isSome_iff_exists.1 h
    exact ⟨_, List.mem_filter.2 ⟨lkN_some hv, by simp⟩, rfl⟩
end
/-! ### Counts -/
section
variable {T T' : Int → Option NdZ} {nm : List NmZ} {n m : Int} {s u : ByteArray} {v : Nat} {x : NmZ}
theorem hasNm_put (nm : List NmZ) (n : Int) (s : ByteArray) (v : Nat) (m : Int) : hasNm (nm ++ [(n, s, v)]) m = hasNm nm m + if (v : Int) = m then 1 else 0 := by
  unfold hasNm
  rw [List.countP_append]
  by_cases h : (v : Int) = m <;> simp [h]
theorem dirsIn_put (T : Int → Option NdZ) (nm : List NmZ) (n : Int) (s : ByteArray) (v : Nat) (m : Int) : dirsIn T (nm ++ [(n, s, v)]) m = dirsIn T nm m + if n = m ∧ dirAt T v = true then 1 else 0 := by
  unfold dirsIn
  rw [List.countP_append]
  by_cases h : n = m <;> by_cases c : dirAt T v = true <;> simp [h, c]
theorem dirsIn_congr (h : ∀ x ∈ nm, dirAt T' x.2.2 = dirAt T x.2.2) (m : Int) : dirsIn T' nm m = dirsIn T nm m := by
  unfold dirsIn
  exact List.countP_congr fun x hx => by rw [h x hx]
theorem hasNm_zero (h : ∀ x ∈ nm, (x.2.2 : Int) ≠ m) : hasNm nm m = 0 := List.countP_eq_zero.2 fun x hx => by simp [h x hx]
theorem dirsIn_zero (h : ∀ x ∈ nm, x.1 ≠ m) : dirsIn T nm m = 0 := List.countP_eq_zero.2 fun x hx => by simp [h x hx]
theorem put_nd (h : (nm.map fun x => (x.1, x.2.1)).Nodup) (hn : lkN nm n s = none) (v : Nat) : ((nm ++ [(n, s, v)]).map fun x => (x.1, x.2.1)).Nodup := by
  rw [List.map_append, List.nodup_append]
  refine ⟨h, by simp, ?_⟩
  rintro a ha b hb rfl
  obtain ⟨x, hx, e⟩ := List.mem_map.1 ha
  simp only [List.map_cons, List.map_nil, List.mem_singleton] at hb
  rw [hb] at e
  injection e with e1 e2
  exact lkN_none hn x hx ⟨e1, e2⟩
theorem dirAt_some {y : NdZ} (h : T n = some y) : dirAt T n = decide (y.k = 2) := by unfold dirAt; rw [h]
end
theorem dirAt_upd (T : Int → Option NdZ) (n : Int) (y : NdZ) (m : Int) : dirAt (updN T n (some y)) m = if m = n then decide (y.k = 2) else dirAt T m := by
  unfold dirAt updN
  by_cases h : m = n
  · rw [if_pos h, if_pos h]
  · rw [if_neg h, if_neg h]
/-- An inode with so many links. -/
def NdZ.lk (x : NdZ) (l : Nat) : NdZ := { x with l := l }
section
variable {T : Int → Option NdZ} {nm : List NmZ} {n : Int} {s : ByteArray} {v of : Nat} {d y : NdZ}
/-- Make. -/
theorem TrOk.make (h : TrOk T nm) (hd : T n = some d) (hk : d.k = 2) (hdl : 2 ≤ d.l) (hs : nameP s.data.toList = true) (hno : lkN nm n s = none) (hof : T of = none) (h1 : 1 ≤ of) (h2 : of ≤ 1024) (hr : Right16 y.k y.l y.s y.b y.t)
    (hyl : y.l = if y.k = 2 then 2 else 1) (hup : y.k = 2 → y.up = n) (hm : y.k = 2 → d.l < 1000) :
    TrOk (updN (if y.k = 2 then updN T n (some (d.lk (d.l + 1))) else T) of (some y)) (nm ++ [(n, s, of)]) := by
  have hne : n ≠ (of : Int) := fun e => by rw [e, hof] at hd; cases hd
  have hnames : ∀ x ∈ nm, (x.2.2 : Int) ≠ of := fun x hx e => by
    obtain ⟨_, _, _, z, hz, _⟩ := h.nms x hx
    rw [e, hof] at hz; cases hz
  have hins : ∀ x ∈ nm, x.1 ≠ (of : Int) := fun x hx e => by
    obtain ⟨_, _, ⟨z, hz, _⟩, _⟩ := h.nms x hx
    rw [e, hof] at hz; cases hz
  obtain ⟨T1, hT1⟩ : ∃ T1, T1 = if y.k = 2 then updN T n (some (d.lk (d.l + 1))) else T := ⟨_, rfl⟩
  rw [← hT1]
  -- what the inodes are behind it
  have key : ∀ m x, updN T1 of (some y) m = some x → (m = of ∧ x = y) ∨ (m ≠ of ∧ ∃ x0, T m = some x0 ∧ x.k = x0.k ∧ x.s = x0.s ∧ x.b = x0.b ∧ x.t = x0.t ∧ x.up = x0.up ∧ x.pin = x0.pin ∧ x.l = x0.l + (if m = n ∧ y.k = 2 then 1 else 0)) := by
    intro m x hx
    by_cases e : m = of
    · rw [e, updN_same] at hx
      injection hx with hx
      exact .inl ⟨e, hx.symm⟩
    · rw [updN_far e, hT1] at hx
      refine .inr ⟨e, ?_⟩
      by_cases hy : y.k = 2
      · rw [if_pos hy] at hx
        by_cases e2 : m = n
        · rw [e2, updN_same] at hx
          injection hx with hx
          subst hx
          exact ⟨d, by rw [e2, hd], rfl, rfl, rfl, rfl, rfl, rfl, by rw [if_pos ⟨e2, hy⟩]; rfl⟩
        · rw [updN_far e2] at hx
          exact ⟨x, hx, rfl, rfl, rfl, rfl, rfl, rfl, by rw [if_neg fun q => e2 q.1]; rfl⟩
      · rw [if_neg hy] at hx
        exact ⟨x, hx, rfl, rfl, rfl, rfl, rfl, rfl, by rw [if_neg fun q => hy q.2]; rfl⟩
  have back : ∀ m x0, T m = some x0 → ∃ x, updN T1 of (some y) m = some x ∧ x.k = x0.k ∧ x.up = x0.up ∧ x0.l ≤ x.l := by
    intro m x0 hx
    have e : m ≠ of := fun e => by rw [e, hof] at hx; cases hx
    rw [updN_far e, hT1]
    by_cases hy : y.k = 2
    · rw [if_pos hy]
      by_cases e2 : m = n
      · rw [e2, updN_same]
        rw [e2, hd] at hx
        injection hx with hx
        subst hx
        exact ⟨_, rfl, rfl, rfl, by show d.l ≤ d.l + 1; omega⟩
      · rw [updN_far e2]; exact ⟨x0, hx, rfl, rfl, Nat.le_refl _⟩
    · rw [if_neg hy]; exact ⟨x0, hx, rfl, rfl, Nat.le_refl _⟩
  have hdir : ∀ m, dirAt (updN T1 of (some y)) m = if m = of then decide (y.k = 2) else dirAt T m := by
    intro m
    rw [dirAt_upd]
    by_cases e : m = of
    · rw [if_pos e, if_pos e]
    · rw [if_neg e, if_neg e, hT1]
      by_cases hy : y.k = 2
      · rw [if_pos hy, dirAt_upd]
        by_cases e2 : m = n
        · rw [if_pos e2, e2, dirAt_some hd]; rfl
        · rw [if_neg e2]
      · rw [if_neg hy]
  have hdn : ∀ m, dirsIn (updN T1 of (some y)) nm m = dirsIn T nm m := dirsIn_congr fun x hx => by rw [hdir, if_neg (hnames x hx)]
  have of0 : hasNm nm of = 0 := hasNm_zero hnames
  obtain ⟨dep, hdep⟩ := h.dep
  refine ⟨⟨?_, ?_, ?_, put_nd h.nd hno _, ?_, ?_, ?_, ?_, ?_⟩, ?_⟩
  · obtain ⟨x, q1, q2, q3, q4⟩ := h.root
    obtain ⟨x', p1, p2, p3, p4⟩ := back 1 x q1
    exact ⟨x', p1, by rw [p2]; exact q2, by omega, by rw [p3]; exact q4⟩
  · intro m x hx
    rcases key m x hx with ⟨rfl, _⟩ | ⟨_, x0, q, _⟩
    · omega
    · exact h.rng m x0 q
  · intro m x hx
    rcases key m x hx with ⟨_, rfl⟩ | ⟨_, x0, q, k1, k2, k3, k4, k5, k6, k7⟩
    · exact hr
    · have := h.right m x0 q
      refine ⟨by omega, ?_, by rw [k1, k2, k3, k4]; exact this.2.2⟩
      rw [k7]
      by_cases c : m = n ∧ y.k = 2
      · rw [if_pos c]
        rw [c.1, hd] at q
        injection q with q
        have := hm c.2
        rw [← q]; omega
      · rw [if_neg c]; exact this.2.1
  · intro x hx
    rcases List.mem_append.1 hx with hx | hx
    · obtain ⟨a1, a2, ⟨z, z1, z2, z3⟩, ⟨z', z4, z5⟩⟩ := h.nms x hx
      obtain ⟨p, p1, p2, p3, p4⟩ := back _ z z1
      obtain ⟨p', p1', p2', p3', p4'⟩ := back _ z' z4
      exact ⟨a1, a2, ⟨p, p1, by rw [p2]; exact z2, by omega⟩, p', p1', fun q => by rw [p2'] at q; have := z5 q; exact ⟨by rw [p3']; exact this.1, by omega⟩⟩
    · rw [List.mem_singleton] at hx
      subst hx
      obtain ⟨r, r1, _⟩ := h.root
      obtain ⟨p, p1, p2, p3, p4⟩ := back _ d hd
      refine ⟨hs, fun e => ?_, ⟨p, p1, by rw [p2]; exact hk, by omega⟩, y, updN_same .., fun q => ⟨hup q, ?_⟩⟩
      · have e : ((of : Nat) : Int) = 1 := e
        rw [← e, hof] at r1; cases r1
      · rw [hyl, if_pos q]; omega
  · intro m x hx hxk
    rw [hasNm_put]
    rcases key m x hx with ⟨rfl, rfl⟩ | ⟨e, x0, q, k1, _, _, _, _, _, k7⟩
    · rw [of0, if_pos rfl, hyl, if_neg hxk]
    · rw [if_neg fun c => e c.symm, k7, if_neg, Nat.add_zero, Nat.add_zero]
      · exact h.links m x0 q (by rw [← k1]; exact hxk)
      · rintro ⟨rfl, _⟩
        rw [hd] at q
        injection q with q
        rw [k1, ← q] at hxk
        exact hxk hk
  · intro m x hx hxk hxl
    rw [dirsIn_put, hdn, hdir, if_pos rfl]
    rcases key m x hx with ⟨rfl, rfl⟩ | ⟨e, x0, q, k1, _, _, _, _, _, k7⟩
    · rw [dirsIn_zero hins, if_neg fun c => hne c.1, hyl, if_pos hxk]
    · rw [k7]
      by_cases c : m = n ∧ y.k = 2
      · rw [if_pos c, if_pos ⟨c.1.symm, by simp [c.2]⟩]
        have := h.dirs m x0 q (by rw [← k1]; exact hxk) (by rw [c.1, hd] at q; injection q with q; rw [← q]; omega)
        omega
      · rw [if_neg c, if_neg fun p => c ⟨p.1.symm, by simpa using p.2⟩]
        rw [k7, if_neg c] at hxl
        exact h.dirs m x0 q (by rw [← k1]; exact hxk) (by omega)
  · intro m x hx hxk hxl hm1
    rw [hasNm_put]
    rcases key m x hx with ⟨rfl, rfl⟩ | ⟨e, x0, q, k1, _, _, _, _, _, k7⟩
    · rw [of0, if_pos rfl]
    · rw [if_neg fun c => e c.symm, Nat.add_zero]
      refine h.one m x0 q (by rw [← k1]; exact hxk) ?_ hm1
      intro q0
      rw [k7, q0] at hxl
      by_cases c : m = n ∧ y.k = 2
      · rw [c.1, hd] at q
        injection q with q
        rw [← q] at q0; omega
      · rw [if_neg c] at hxl; exact hxl rfl
  · refine ⟨fun m => if m = of then dep n + 1 else dep m, fun m x hx hxk hxl hm1 => ?_⟩
    rcases key m x hx with ⟨rfl, rfl⟩ | ⟨e, x0, q, k1, _, _, _, k5, k6, k7⟩
    · show (if x.up = (of : Int) then dep n + 1 else dep x.up) < (if (of : Int) = of then dep n + 1 else dep of)
      rw [if_pos rfl, hup hxk, if_neg hne]; omega
    · show (if x.up = (of : Int) then dep n + 1 else dep x.up) < (if m = of then dep n + 1 else dep m)
      rw [if_neg e, k5]
      have hl0 : x0.l ≠ 0 := fun q0 => by
        rw [k7, q0] at hxl
        by_cases c : m = n ∧ y.k = 2
        · rw [c.1, hd] at q
          injection q with q
          rw [← q] at q0; omega
        · rw [if_neg c] at hxl; exact hxl rfl
      have hlt := hdep m x0 q (by rw [← k1]; exact hxk) hl0 hm1
      have : x0.up ≠ of := fun e2 => by
        have h1 := h.one m x0 q (by rw [← k1]; exact hxk) hl0 hm1
        have h2 : 0 < hasNm nm m := by omega
        obtain ⟨z, hz, hz2⟩ := List.countP_pos_iff.1 h2
        have hz2 : (z.2.2 : Int) = m := of_decide_eq_true hz2
        obtain ⟨_, _, ⟨z0, hz0, _⟩, z1, hz1, hz3⟩ := h.nms z hz
        rw [hz2, q] at hz1
        injection hz1 with hz1
        rw [← hz1] at hz3
        have := (hz3 (by rw [← k1]; exact hxk)).1
        rw [← this, e2, hof] at hz0
        cases hz0
      rw [if_neg this]
      exact hlt
  · intro m x hx hx0
    rcases key m x hx with ⟨rfl, rfl⟩ | ⟨e, x0, q, k1, _, _, _, _, k6, k7⟩
    · rw [hyl] at hx0; split at hx0 <;> cases hx0
    · rw [k6]; exact h.dead m x0 q (by omega)
end
/-! ### Steps that leave all inodes there -/
section
variable {T T' : Int → Option NdZ} {nm : List NmZ} {n m tq : Int} {s u : ByteArray} {v : Nat} {d x y : NdZ}
theorem upd_cases {z : NdZ} (h : updN T n (some y) m = some z) : (m = n ∧ z = y) ∨ (m ≠ n ∧ T m = some z) := by
  by_cases e : m = n
  · rw [e, updN_same] at h
    injection h with h
    exact .inl ⟨e, h.symm⟩
  · rw [updN_far e] at h; exact .inr ⟨e, h⟩
end
section
variable {T T' : Int → Option NdZ} {nm : List NmZ} {n m tq : Int} {s u : ByteArray} {v : Nat} {d e x y : NdZ}
end
end Go.Proofs.YtgleopahldpajaaGreat

/-
  Layer 19 (tree): the values of a tree's maps: inodes; sets of ints; sets of names' places.
-/
namespace Go.Proofs.YtgleopahldpajaaGreat
open Go.RowKit
open Go.Maps (Keyed has)
set_option linter.unusedVariables false

/-- An inode as the map has it. -/
structure NdV where
  k : Int
  l : Int
  s : Int
  ao : Option Addr
  n : Nat
  cap : Nat
  t : ByteArray
  dp : Option Addr
  up : Int
  op : Int
def ndVal (x : NdV) : Value := .agg #[.int .u8 x.k, .int .i64 x.l, .int .i64 x.s, .slice x.ao x.n x.cap, .string x.t, .pointer x.dp, .int .i64 x.up, .int .i64 x.op]
def adEnc : Option Addr → DataW Unit
  | none => .nil
  | some ⟨b, o, none⟩ => .agg [.lit (.int .i64 (b : Int)), .lit (.int .i64 (o : Int))]
  | some ⟨b, o, some q⟩ => .agg [.lit (.int .i64 (b : Int)), .lit (.int .i64 (o : Int)), .lit (.int .i64 (q : Int))]
theorem adEnc_inj (a b : Option Addr) (h : adEnc a = adEnc b) : a = b := by
  match a, b, h with
  | none, none, _ => rfl
  | none, some ⟨_, _, none⟩, h => cases h
  | none, some ⟨_, _, some _⟩, h => cases h
  | some ⟨_, _, none⟩, none, h => cases h
  | some ⟨_, _, some _⟩, none, h => cases h
  | some ⟨b1, o1, none⟩, some ⟨b2, o2, none⟩, h =>
    simp only [adEnc, DataW.agg.injEq, List.cons.injEq, DataW.lit.injEq, Lit.int.injEq, true_and, and_true] at h
    have h1 : b1 = b2 := by omega
    have h2 : o1 = o2 := by omega
    rw [h1, h2]
  | some ⟨_, _, none⟩, some ⟨_, _, some _⟩, h => simp [adEnc] at h
  | some ⟨_, _, some _⟩, some ⟨_, _, none⟩, h => simp [adEnc] at h
  | some ⟨b1, o1, some q1⟩, some ⟨b2, o2, some q2⟩, h =>
    simp only [adEnc, DataW.agg.injEq, List.cons.injEq, DataW.lit.injEq, Lit.int.injEq, true_and, and_true] at h
    have h1 : b1 = b2 := by omega
    have h2 : o1 = o2 := by omega
    have h3 : q1 = q2 := by omega
    rw [h1, h2, h3]
def ndEnc (x : NdV) : DataW Unit := .agg [.lit (.int .u8 x.k), .lit (.int .i64 x.l), .lit (.int .i64 x.s), adEnc x.ao, .lit (.int .i64 (x.n : Int)), .lit (.int .i64 (x.cap : Int)), .lit (.string x.t.data.toList), adEnc x.dp, .lit (.int .i64 x.up), .lit (.int .i64 x.op)]
theorem ndVal_inj (x y : NdV) (h : ndVal x = ndVal y) : x = y := by
  unfold ndVal at h
  simp only [Value.agg.injEq, Array.mk.injEq, List.cons.injEq, Value.int.injEq, Value.slice.injEq, Value.string.injEq, Value.pointer.injEq, true_and, and_true] at h
  obtain ⟨h1, h2, h3, ⟨h4, h5, h6⟩, h7, h8, h9, h10⟩ := h
  cases x; cases y
  simp only [NdV.mk.injEq]
  exact ⟨h1, h2, h3, h4, h5, h6, h7, h8, h9, h10⟩
theorem ndEnc_inj (x y : NdV) (h : ndEnc x = ndEnc y) : x = y := by
  unfold ndEnc at h
  simp only [DataW.agg.injEq, List.cons.injEq, DataW.lit.injEq, Lit.int.injEq, Lit.string.injEq, true_and, and_true] at h
  obtain ⟨h1, h2, h3, h4, h5, h6, h7, h8, h9, h10⟩ := h
  have e4 := adEnc_inj _ _ h4
  have e8 := adEnc_inj _ _ h8
  have e7 : x.t = y.t := ByteArray.ext (Array.ext' h7)
  have e5 : x.n = y.n := by omega
  have e6 : x.cap = y.cap := by omega
  cases x; cases y
  simp only [NdV.mk.injEq]
  exact ⟨h1, h2, h3, e4, e5, e6, e7, e8, h9, h10⟩
open Classical in
noncomputable def ndRd (v : Value) : Option (DataW Unit × List MemPlace) := if h : ∃ x, v = ndVal x then some (ndEnc (Classical.choose h), []) else none
theorem ndRd_mk (a : NdV) : ndRd (ndVal a) = some (ndEnc a, []) := by
  unfold ndRd
  have h : ∃ x, ndVal a = ndVal x := ⟨a, rfl⟩
  rw [dif_pos h, ← ndVal_inj _ _ (Classical.choose_spec h)]
theorem ndRd_inv (v : Value) (y : DataW Unit × List MemPlace) (h : ndRd v = some y) : ∃ a, v = ndVal a ∧ y = (ndEnc a, []) := by
  unfold ndRd at h
  split at h
  · rename_i c
    injection h with h
    exact ⟨_, Classical.choose_spec c, h.symm⟩
  · cases h
def ndZero : NdV := ⟨0, 0, 0, none, 0, 0, ⟨#[]⟩, none, 0, 0⟩
noncomputable def ndE : EltLaw Tryz.prog 125 NdV where
  val := ndVal
  enc := ndEnc
  R := ndRd
  R_mk := ndRd_mk
  R_inv := ndRd_inv
  enc_inj := ndEnc_inj
  zero := ndZero
  zero_run := fun _ => by kernel_rfl
def setVal (_ : Unit) : Value := .agg #[]
def setR : Value → Option (DataW Unit × List MemPlace)
  | .agg cs => if cs.toList = [] then some (.agg [], []) else none
  | _ => none
theorem setR_inv (v : Value) (y : DataW Unit × List MemPlace) (h : setR v = some y) : ∃ a, v = setVal a ∧ y = (.agg [], []) := by
  unfold setR at h
  split at h
  · rename_i cs
    split at h
    · rename_i hl
      cases h
      refine ⟨(), ?_, rfl⟩
      unfold setVal
      congr 1
      exact Array.ext' hl
    · cases h
  · cases h
noncomputable def setE : EltLaw Tryz.prog 139 Unit where
  val := setVal
  enc := fun _ => .agg []
  R := setR
  R_mk := fun _ => rfl
  R_inv := setR_inv
  enc_inj := fun _ _ _ => rfl
  zero := ()
  zero_run := fun _ => by kernel_rfl

/-! ### A name's place as a key -/
def spK (x : Int) (s : ByteArray) : Lit := .string (keyBytes [.int .i64 x, .string s.data.toList])
open Go.WideMaps Go.WideShapes in
theorem spot_keyed : Keyed Tryz.prog 135 := Keyed.of_law (deep_law (m := 2) (by omega) (by kernel_rfl) (by kernel_rfl) (by kernel_rfl))
theorem spot_types : ∃ m, Tryz.prog.types.size = m + 1 := ⟨Tryz.prog.types.size - 1, by
  have : 0 < Tryz.prog.types.size := of_decide_eq_true (by kernel_rfl)
  omega⟩
theorem spot_key {x : Int} {s : ByteArray} (hx : WfZ x) (hs : s.size ≤ maxLen) : keyOf Tryz.prog 135 (.agg #[.int .i64 x, .string s]) = some (spK x s) := by
  have hu := Tryz.underlying135
  have hi := Tryz.underlying3
  have hst := Tryz.underlying9
  have hc : Tryz.prog.cellsOf 135 = 2 := by kernel_rfl
  have hc1 : Tryz.prog.cellsOf 3 = 1 := by kernel_rfl
  have hc2 : Tryz.prog.cellsOf 9 = 1 := by kernel_rfl
  have hf : (Value.agg #[.int .i64 x, .string s]).formed Tryz.prog 135 = true := by simp [Value.formed, hu, hc]
  have ht : Tryz.prog.keyType 135 = true := by kernel_rfl
  obtain ⟨m, hm⟩ := spot_types
  have hx' : (Lit.int .i64 x).wf = true := hx
  have e1 : Tryz.prog.keyLits (m + 1) 3 [.int .i64 x] = some [.int .i64 x] := by
    unfold Program.keyLits; rw [hi]; simp [hx']
  have e2 : Tryz.prog.keyLits (m + 1) 9 [.string s] = some [.string s.data.toList] := by
    unfold Program.keyLits; rw [hst]; simp [hs]
  unfold keyOf
  rw [hu]
  simp only [ht, hf, Bool.and_self, if_true]
  rw [hm]
  unfold Program.keyLits
  rw [hu]
  simp only [Value.cells]
  rw [hc]
  simp [e1, e2, hc1, hc2, spK, List.mapM_cons, List.mapM_nil]
theorem spK_inj {x y : Int} {s u : ByteArray} (hx : WfZ x) (hy : WfZ y) (hs : s.size ≤ maxLen) (hu : u.size ≤ maxLen) (h : spK x s = spK y u) : x = y ∧ s = u := by
  have h1 := spot_key hx hs
  have h2 := spot_key hy hu
  rw [← h] at h2
  have := spot_keyed.inj h1 h2
  simpa using this
theorem spK_lit (x : Int) (s : ByteArray) : WideAt.IsKeyLit (spK x s) := by simp [WideAt.IsKeyLit, spK]
/-- The datum D is the set f. -/
def MIsS (D : DataW Unit) (f : Int → ByteArray → Bool) : Prop := ∀ x s, WfZ x → s.size ≤ maxLen → has D (spK x s) = f x s
def MapS (w : World) (b n : Nat) (f : Int → ByteArray → Bool) : Prop := ∃ D, w.ownsMap Tryz.prog 135 setE.R b n D ∧ MIsS D f
def updS (f : Int → ByteArray → Bool) (x : Int) (s : ByteArray) : Int → ByteArray → Bool := fun y u => (decide (y = x) && decide (u = s)) || f y u
section
variable {w w' : World} {b n : Nat} {f : Int → ByteArray → Bool}
theorem MIsS.put {D : DataW Unit} (h : MIsS D f) (hD : Maps.IsMap D) {x : Int} {s : ByteArray} (hx : WfZ x) (hs : s.size ≤ maxLen) : MIsS (D.put (spK x s) (.agg [])) (updS f x s) := by
  intro y u hy hu
  by_cases q : y = x ∧ u = s
  · obtain ⟨rfl, rfl⟩ := q
    rw [Maps.has_put_same hD (spK_lit _ _)]; simp [updS]
  · have hne : spK y u ≠ spK x s := fun e => q (spK_inj hy hx hu hs e)
    rw [Maps.has_put_other hne, h y u hy hu]
    unfold updS
    by_cases c : y = x
    · have : u ≠ s := fun e => q ⟨c, e⟩
      simp [this]
    · simp [c]
theorem MapS.lt (h : MapS w b n f) : b < w.heap.size := by obtain ⟨D, h, _⟩ := h; exact h.lt
theorem MapS.mono {m : Nat} (h : MapS w b n f) (hm : n ≤ m) : MapS w b m f := by obtain ⟨D, h, q⟩ := h; exact ⟨D, h.mono hm, q⟩
theorem MapS.made (w : World) : MapS (w.alloc (.map #[] 0)) w.heap.size 0 (fun _ _ => false) := ⟨.map [], World.ownsMap_made _ _ _ _, fun _ _ _ _ => rfl⟩
theorem MapS.block (h : MapS w b n f) (hb : w'.heap[b]? = w.heap[b]?) : MapS w' b n f := by
  obtain ⟨D, ⟨es, clock, h1, h2, h3, h4⟩, q⟩ := h
  exact ⟨D, ⟨es, clock, hb.trans h1, h2, h3, h4⟩, q⟩
theorem MapS.gr {bs : List Nat} (h : MapS w b n f) (g : Gr bs w w') (hn : b ∉ bs) : MapS w' b n f := h.block (g.block b h.lt hn)
theorem MapS.gr0 (h : MapS w b n f) (g : Gr [] w w') : MapS w' b n f := h.gr g (by simp)
end
section
variable {w : World} {b n t : Nat} {f : Int → ByteArray → Bool} {ops : Array Oper} {rest : List Oper} {o : Oper} {a : Act} {Q : Exit → Act → World → Prop}
/-- 'm[spot{z, s}] = struct{}{}' -/
theorem wp_putS (hg : o.guard = none) (m x v : Operand) (hop : o.op = Op.mapUpdate 128 m x v) (hm : a.eval m = .map (some b)) (h : MapS w b n f) (hn : n < maxLen) (z : Int) (s : ByteArray) (hx : a.eval x = .agg #[.int .i64 z, .string s]) (hz : WfZ z) (hs : s.size ≤ maxLen)
    (hv : a.eval v = .agg #[]) (hK : ∀ w', MapS w' b (n + 1) (updS f z s) → Gr [b] w w' → w'.heap.size = w.heap.size → wpList Tryz.prog ops Q rest (a.put o.dst undef) w') : wpList Tryz.prog ops Q (o :: rest) a w := by
  obtain ⟨D, h, q⟩ := h
  refine wpList_plain hg fun K' hK' => ?_
  obtain ⟨w', hrun, r1, r2⟩ := h.store spot_keyed Tryz.underlying128 hn (spot_key hz hs) (setE.R_mk ())
  unfold Oper.wp
  have hrun' : (Instr.mapUpdate 128 (.map (some b)) (.agg #[.int .i64 z, .string s]) (.agg #[])).run Tryz.prog w = _ := hrun
  simp [execOp, hop, hm, hx, hv, hrun', Result.andThen]
  have hsz : w'.heap.size = w.heap.size := by
    obtain ⟨es, cl, es', cl', _, rfl⟩ := r2
    simp [ChangeMaps.setBlock]
  exact hK' _ _ (hK w' ⟨_, r1, q.put h.isMap hz hs⟩ (Gr.ofGrown r2.grown) hsz)
end

/-! ### How many entries a map has -/
section
variable {P : Program} {k e t : TypeId} {α : Type} {E : EltLaw P e α} {w : World} {b n : Nat} {f : Int → Option α}
def litZ : Lit → Int
  | .int _ z => z
  | _ => 0
theorem keyZ_inv (hk : P.underlying k = some (.int .i64)) {v : Value} {l : Lit} (h : keyOf P k v = some l) : ∃ z, l = .int .i64 z ∧ WfZ z := by
  obtain ⟨z, _, hl, hz⟩ := Maps.keyOf_int_inv hk h
  exact ⟨z, hl, hz⟩
theorem MapZ.keys (h : MapZ E k w b n f) (hk : P.underlying k = some (.int .i64)) (ht : P.underlying t = some (.map k e)) :
    ∃ L : List Int, L.Nodup ∧ (∀ x, x ∈ L ↔ WfZ x ∧ (f x).isSome = true) ∧ ∀ ty, (Builtin.len_ #[t] ty #[.map (some b)]).run P w = .ok (.int .i64 (L.length : Int)) w := by
  obtain ⟨D, hown, q⟩ := h
  have hlen := fun ty => hown.len ht ty
  obtain ⟨es, hD, hpw, _⟩ := hown.entries (Maps.int_keyed hk)
  obtain ⟨es', hD', hko⟩ := hown.keysOf
  obtain rfl : es = es' := by rw [hD] at hD'; simpa using hD'
  subst hD
  have kx : ∀ p ∈ es, ∃ x, p.1 = Lit.int .i64 x ∧ WfZ x := fun p hp => by
    obtain ⟨v, hv⟩ := hko p hp
    exact keyZ_inv hk hv
  refine ⟨es.map fun p => litZ p.1, ?_, fun x => ?_, fun ty => ?_⟩
  · rw [List.Nodup, List.pairwise_map]
    refine hpw.imp_of_mem fun {p q} hp hq hne e => hne ?_
    obtain ⟨x, hx, _⟩ := kx p hp
    obtain ⟨y, hy, _⟩ := kx q hq
    rw [hx, hy] at e ⊢
    have e2 : x = y := e
    rw [e2]
  · rw [List.mem_map]
    constructor
    · rintro ⟨p, hp, rfl⟩
      obtain ⟨y, hy, hw⟩ := kx p hp
      have e : litZ p.1 = y := by rw [hy]; rfl
      rw [e]
      refine ⟨hw, ?_⟩
      rw [← (q y hw).1, Maps.has_eq, List.any_eq_true]
      exact ⟨p, hp, by rw [hy]; exact key_self y⟩
    · rintro ⟨hw, hs⟩
      rw [← (q x hw).1, Maps.has_eq, List.any_eq_true] at hs
      obtain ⟨p, hp, hs⟩ := hs
      obtain ⟨y, hy, _⟩ := kx p hp
      rw [hy, key_is, decide_eq_true_eq] at hs
      exact ⟨p, hp, by rw [hy, ← hs]; rfl⟩
  · rw [hlen ty, List.length_map]
    rfl
end
end Go.Proofs.YtgleopahldpajaaGreat
