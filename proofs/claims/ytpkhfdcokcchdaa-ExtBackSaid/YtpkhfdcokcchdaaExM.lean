/-
  Layer 15: what ExtBack says of lists, without the program.
-/
import Derived.Test.YtpkhfdcokcchdaaExL
namespace Go.Proofs.Ytpkhfdcokcchdaa
open Go.RowKit

theorem addR_cases (acc : List (Int × Int)) (e : Int × Int) : (acc = [] ∧ addR acc e = [e]) ∨ ∃ A p, acc = A ++ [p] ∧ ((mrg p e = true ∧ addR acc e = A ++ [(p.1, p.2 + e.2)]) ∨ (mrg p e = false ∧ addR acc e = A ++ [p] ++ [e])) := by
  rcases List.eq_nil_or_concat acc with q | ⟨A, p, q⟩
  · exact .inl ⟨q, by rw [q]; rfl⟩
  · rw [List.concat_eq_append] at q
    refine .inr ⟨A, p, q, ?_⟩
    rw [q, addR_snoc]
    cases h : mrg p e with
    | true => exact .inl ⟨rfl, rfl⟩
    | false => exact .inr ⟨rfl, rfl⟩
theorem apart_add {acc : List (Int × Int)} (e : Int × Int) (h : apartP acc = true) : apartP (addR acc e) = true := by
  rcases addR_cases acc e with ⟨_, q⟩ | ⟨A, p, ha, ⟨m, q⟩ | ⟨m, q⟩⟩
  · rw [q]; simp [apartP]
  · rw [q]
    rw [ha] at h
    rcases List.eq_nil_or_concat A with z | ⟨B, b, z⟩
    · rw [z]; simp [apartP]
    · rw [List.concat_eq_append] at z
      rw [z] at h ⊢
      rw [apart_snoc] at h ⊢
      rw [mrg_fst b (p.1, p.2 + e.2) p rfl]
      exact h
  · rw [q, apart_snoc, m]
    rw [ha] at h
    rw [h]; rfl
theorem apart_fold (l : List (Int × Int)) : ∀ acc, apartP acc = true → apartP (l.foldl addR acc) = true := by
  induction l with
  | nil => intro acc h; exact h
  | cons e r ih => intro acc h; exact ih _ (apart_add e h)
theorem apart_join (l : List (Int × Int)) : apartP (joinP l) = true := apart_fold l [] (by simp [apartP])
theorem len_add (acc : List (Int × Int)) (e : Int × Int) : (addR acc e).length ≤ acc.length + 1 := by
  rcases addR_cases acc e with ⟨_, q⟩ | ⟨A, p, ha, ⟨m, q⟩ | ⟨m, q⟩⟩
  · rw [q]; simp
  · rw [q, ha]; simp
  · rw [q, ha]; simp
theorem len_fold (l : List (Int × Int)) : ∀ acc : List (Int × Int), (l.foldl addR acc).length ≤ acc.length + l.length := by
  induction l with
  | nil => intro acc; simp
  | cons e r ih =>
    intro acc
    have h1 := ih (addR acc e)
    have h2 := len_add acc e
    rw [List.foldl_cons, List.length_cons]
    omega
theorem blkR_join {p e : Int × Int} (m : mrg p e = true) (hp : okR p) (he : okR e) : blkR (p.1, p.2 + e.2) = blkR p ++ blkR e := by
  have h2 := hp.2
  have h3 := he.2
  have h1 := hp.1
  unfold blkR
  simp only
  rw [show (p.2 + e.2).toNat = p.2.toNat + e.2.toNat by omega, List.range_add, List.map_append, List.map_map]
  congr 1
  refine List.map_congr_left fun k hk => ?_
  simp only [Function.comp]
  unfold mrg at m
  split at m
  · simp only [decide_eq_true_eq] at m
    have : p.1 = -1 ∧ e.1 = -1 := by omega
    rw [if_pos this.1, if_pos this.2]
  · simp only [decide_eq_true_eq] at m
    rw [if_neg (by omega), if_neg (by omega)]
    push_cast
    omega
theorem blk_add {acc : List (Int × Int)} {e : Int × Int} (ha : ∀ p ∈ acc, okR p) (he : okR e) : blk (addR acc e) = blk acc ++ blkR e ∧ ∀ p ∈ addR acc e, okR p := by
  rcases addR_cases acc e with ⟨z, q⟩ | ⟨A, p, z, ⟨m, q⟩ | ⟨m, q⟩⟩
  · rw [q, z]
    exact ⟨by simp [blk], fun x hx => by simp at hx; subst hx; exact he⟩
  · have hp : okR p := ha p (by rw [z]; simp)
    rw [q, z, blk_append, blk_append, List.append_assoc]
    refine ⟨?_, fun x hx => ?_⟩
    · congr 1
      have := blkR_join m hp he
      simp [blk, this]
    · rcases List.mem_append.1 hx with y | y
      · exact ha x (by rw [z]; simp [y])
      · simp at y; subst y; exact ⟨hp.1, by have := hp.2; have := he.2; simp only; omega⟩
  · rw [q, z]
    refine ⟨by simp [blk], fun x hx => ?_⟩
    rcases List.mem_append.1 hx with y | y
    · exact ha x (by rw [z]; exact y)
    · simp at y; subst y; exact he
theorem blk_fold (l : List (Int × Int)) : ∀ acc, (∀ p ∈ acc, okR p) → (∀ p ∈ l, okR p) → blk (l.foldl addR acc) = blk acc ++ blk l := by
  induction l with
  | nil => intro acc _ _; simp [blk]
  | cons e r ih =>
    intro acc ha hl
    obtain ⟨h1, h2⟩ := blk_add ha (hl e (by simp))
    rw [List.foldl_cons, ih _ h2 (fun p hp => hl p (by simp [hp])), h1, blk_cons, List.append_assoc]
theorem blk_join {l : List (Int × Int)} (h : ∀ p ∈ l, okR p) : blk (joinP l) = blk l := by
  have := blk_fold l [] (fun p hp => by simp at hp) h
  rw [blk_nil, List.nil_append] at this
  exact this

theorem Right15.of {l : List (Int × Int)} (h1 : l.length ≤ 64) (h2 : ∀ e ∈ l, -1 ≤ e.1 ∧ e.1 ≤ 65536 ∧ 1 ≤ e.2 ∧ e.2 ≤ 65536) (h3 : apartP l = true) (h4 : sumZ l ≤ 65536) : Right15 l :=
  ⟨h1, ⟨by rw [List.take_length]; exact h2, by rw [List.take_length]; exact h3⟩, h4⟩
theorem sum_tm (l : List (Int × Int)) (h : ∀ e ∈ l, -1 ≤ e.1 ∧ e.1 ≤ 199 ∧ 1 ≤ e.2 ∧ e.2 ≤ 9) : sumZ l ≤ 9 * l.length := by
  have h1 := blk_len (l := l) (fun e he => (h e he).2.2.1)
  have h2 := blk_short h
  omega
theorem tamed_ok (l : List (Int × Int)) : Right15 (tamed l) ∧ (∀ e ∈ tamed l, -1 ≤ e.1 ∧ e.1 ≤ 199 ∧ 1 ≤ e.2 ∧ e.2 ≤ 180) ∧ sumZ (tamed l) ≤ 180 ∧ (tamed l).length ≤ 20 := by
  have hlen : ((l.take 20).map tmE).length ≤ 20 := by simp; omega
  have hj := join_take_ok (l := (l.take 20).map tmE) (B := 199) (fun e he => by have := tm_all (l.take 20) e he; exact ⟨this.1, this.2.1, this.2.2.1⟩) ((l.take 20).map tmE).length (Nat.le_refl _)
  rw [List.take_length] at hj
  have hs := sum_tm _ (tm_all (l.take 20))
  have hn := len_fold ((l.take 20).map tmE) []
  have hm := sumZ_mem (l := tamed l) (fun p hp => (hj.1 p hp).2.2)
  have hsum : sumZ (tamed l) ≤ 180 := by unfold tamed; rw [hj.2]; omega
  have hl : (tamed l).length ≤ 20 := by unfold tamed joinP; simp only [List.length_nil] at hn; omega
  have hall : ∀ e ∈ tamed l, -1 ≤ e.1 ∧ e.1 ≤ 199 ∧ 1 ≤ e.2 ∧ e.2 ≤ 180 := fun e he => ⟨(hj.1 e he).1, (hj.1 e he).2.1, (hj.1 e he).2.2, by have := hm.2 e he; omega⟩
  exact ⟨.of (by omega) (fun e he => by have := hall e he; omega) (apart_join _) (by omega), hall, hsum, hl⟩

theorem sum_solid (l : List (Int × Int)) : sumZ (l.filter solidB) = heldZ l := by
  induction l with
  | nil => rfl
  | cons e r ih =>
    rw [List.filter_cons]
    unfold solidB at ih ⊢
    by_cases q : e.1 = -1
    · simp [q, heldZ, ih]
    · simp [q, heldZ, sumZ, ih]
theorem sum_first {l : List (Int × Int)} (h : Right15 l) {k : Nat} (hk : (k : Int) ≤ sumZ l) : sumZ (firstP l k) = k ∧ Right15 (firstP l k) := by
  have h1 := split_blk (l := l) (n := (k : Int)) (by omega) (fun e he => ⟨(h.all e he).1, (h.all e he).2.2.1⟩)
  have h2 := split_ok (l := l) (n := (k : Int)) (B := 65536) (by omega) h.all h.apart
  have h3 := blk_len (l := firstP l k) (fun e he => (h2.1 e he).2.2.1)
  have h4 := blk_len (l := l) (fun e he => (h.all e he).2.2.1)
  have hs : sumZ (firstP l k) = k := by
    rw [← h3, h1.1, List.length_take]
    omega
  have := h.1
  have := h.2.2
  exact ⟨hs, .of (by omega) h2.1 h2.2.2.1 (by omega)⟩
theorem first_get {l : List (Int × Int)} (h : Right15 l) {k i : Nat} (hi : i < k) : (blk (firstP l k))[i]? = (blk l)[i]? := by
  have h1 := split_blk (l := l) (n := (k : Int)) (by omega) (fun e he => ⟨(h.all e he).1, (h.all e he).2.2.1⟩)
  rw [h1.1, List.getElem?_take_of_lt (by omega)]
theorem rest_all {l : List (Int × Int)} {e : Int × Int} (h : ∀ x ∈ l, 1 ≤ x.2) (he : 1 ≤ e.2) : restP (l ++ [e]) (sumZ l) = [e] := by
  induction l with
  | nil => exact restP_zero (fun x hx => by simp at hx; subst hx; exact he)
  | cons x r ih =>
    have h1 := ih (fun y hy => h y (by simp [hy]))
    have h2 := sumZ_mem (l := r) (fun y hy => h y (by simp [hy]))
    show restP (x :: (r ++ [e])) (x.2 + sumZ r) = [e]
    rw [restP_big x (r ++ [e]) _ (by omega), show x.2 + sumZ r - x.2 = sumZ r by omega, h1]
theorem app_tamed {l : List (Int × Int)} {A : Int} (h : ∀ e ∈ l, -1 ≤ e.1 ∧ e.1 ≤ 199 ∧ 1 ≤ e.2 ∧ e.2 ≤ 180) (hap : apartP l = true) (hA : 1000 ≤ A) : joinP (l ++ [(A, 2)]) = l ++ [(A, 2)] := by
  refine join_apart _ ?_
  rcases List.eq_nil_or_concat l with q | ⟨B, p, q⟩
  · rw [q]; simp [apartP]
  · rw [List.concat_eq_append] at q
    rw [q] at h hap ⊢
    have hp := h p (by simp)
    rw [apart_snoc, hap]
    have : mrg p (A, 2) = false := by
      unfold mrg
      simp only
      split
      · simp; omega
      · simp; omega
    rw [this]; rfl
theorem one_run {l : List (Int × Int)} {x : Int} (h : ∀ e ∈ l, okR e) (hb : blk l = [x]) : l = [(x, 1)] := by
  have h1 := blk_len (l := l) (fun e he => (h e he).2)
  rw [hb] at h1
  match l with
  | [] => simp [blk] at hb
  | e :: r =>
    have h2 := sumZ_mem (l := r) (fun e he => (h e (by simp [he])).2)
    have h3 := (h e (by simp)).2
    have h4 : e.2 + sumZ r = 1 := by simp at h1; exact h1.symm
    have hr : r = [] := by
      match r with
      | [] => rfl
      | y :: z => simp at h2; omega
    subst hr
    have he : e.2 = 1 := by simp [sumZ] at h4; exact h4
    have : e = (e.1, 1) := by rw [← he]
    rw [this] at hb ⊢
    rw [blk_cons, blkR_one] at hb
    simp [blk] at hb
    rw [hb]
theorem held_at {l : List (Int × Int)} (h : Right15 l) {i : Nat} {x : Int} (hx : (blk l)[i]? = some x) : heldZ (firstP (restP l i) (1 : Nat)) = if x = -1 then 0 else 1 := by
  have h1 := split_blk (l := l) (n := (i : Int)) (by omega) (fun e he => ⟨(h.all e he).1, (h.all e he).2.2.1⟩)
  have h2 := split_ok (l := l) (n := (i : Int)) (B := 65536) (by omega) h.all h.apart
  have h3 := split_blk (l := restP l i) (n := ((1 : Nat) : Int)) (by omega) (fun e he => ⟨(h2.2.1 e he).1, (h2.2.1 e he).2.2.1⟩)
  have h4 := split_ok (l := restP l i) (n := ((1 : Nat) : Int)) (B := 131072) (by omega) h2.2.1 h2.2.2.2.1
  have hb : blk (firstP (restP l i) ((1 : Nat) : Int)) = [x] := by
    rw [h3.1, h1.2]
    obtain ⟨a, b⟩ := List.getElem?_eq_some_iff.1 hx
    rw [show ((i : Int)).toNat = i by omega, List.drop_eq_getElem_cons a, b]
    rfl
  rw [one_run (fun e he => ⟨(h4.1 e he).1, (h4.1 e he).2.2.1⟩) hb]
  simp [heldZ]
theorem fill_blk {l : List (Int × Int)} (h : Right15 l) (i : Nat) {A : Int} (hA : 0 ≤ A) (j : Nat) (hi : i < (blk l).length) : (blk (joinP (fillP l i 1 A)))[j]? = if j = i then some A else (blk l)[j]? := by
  have h1 := split_blk (l := l) (n := (i : Int)) (by omega) (fun e he => ⟨(h.all e he).1, (h.all e he).2.2.1⟩)
  have h2 := split_ok (l := l) (n := (i : Int)) (B := 65536) (by omega) h.all h.apart
  have h3 := split_blk (l := restP l i) (n := ((1 : Nat) : Int)) (by omega) (fun e he => ⟨(h2.2.1 e he).1, (h2.2.1 e he).2.2.1⟩)
  have h4 := split_ok (l := restP l i) (n := ((1 : Nat) : Int)) (B := 131072) (by omega) h2.2.1 h2.2.2.2.1
  have hok : ∀ p ∈ fillP l i 1 A, okR p := by
    intro p hp
    unfold fillP at hp
    rcases List.mem_append.1 hp with q | q
    · rcases List.mem_append.1 q with q | q
      · have := h2.1 p q; exact ⟨this.1, this.2.2.1⟩
      · simp at q; subst q; exact ⟨by simp only; omega, by simp⟩
    · have := h4.2.1 p q; exact ⟨this.1, this.2.2.1⟩
  rw [blk_join hok]
  unfold fillP
  rw [blk_append, blk_append, h1.1, h3.2, h1.2, List.drop_drop]
  have hone : blk [(A, ((1 : Nat) : Int))] = [A] := by
    rw [blk_cons, show ((1 : Nat) : Int) = 1 from rfl, blkR_one]; rfl
  rw [hone, show ((i : Int)).toNat = i by omega, show (((1 : Nat) : Int)).toNat = 1 by omega]
  have hl : ((blk l).take i).length = i := by rw [List.length_take]; omega
  rcases Nat.lt_trichotomy j i with q | q | q
  · rw [if_neg (by omega), List.append_assoc, List.getElem?_append_left (by omega), List.getElem?_take_of_lt q]
  · subst q
    rw [if_pos rfl, List.append_assoc, List.getElem?_append_right (by omega), hl, Nat.sub_self]
    rfl
  · rw [if_neg (by omega), List.getElem?_append_right (by rw [List.length_append, hl]; simp; omega), List.length_append, hl, List.getElem?_drop]
    congr 1
    simp
    omega

end Go.Proofs.Ytpkhfdcokcchdaa
