/-
  Layers 17 and 18: strings.ContainsAny of any bytes, for a zero byte and a slash; may it be a name, by the program and by the document.
-/
import Derived.Test.YtnmenihahgggmaaPaN
namespace Go.Proofs.Ytnmenihahgggmaa
open Go.RowKit Go.Shelf

theorem bsL_get {s : List UInt8} {j : Nat} {b : UInt8} (h : s[j]? = some b) : (bsL s).get! j = b := by
  obtain ⟨h1, h2⟩ := List.getElem?_eq_some_iff.1 h
  simp [bsL, ByteArray.get!, h1, h2]
theorem bsL_at {s : List UInt8} {j : Nat} (h : j < (bsL s).size) : s[j]? = some ((bsL s)[j]'h) := by
  have := Lib.data_getElem? (bsL s) j h
  exact this
theorem no_high {b : UInt8} (h : 128 ≤ b.toNat) : ([0, 47] : List UInt8).contains b = false := by
  have h0 : b ≠ 0 := fun e => by subst e; exact absurd h (by decide)
  have h1 : b ≠ 47 := fun e => by subst e; exact absurd h (by decide)
  simp [h0, h1]
theorem noAny_skip {s : List UInt8} {i m : Nat} (h : Lib.NoAny s [0, 47] i) (h0 : ∀ b, s[i]? = some b → 128 ≤ b.toNat) (hk : ∀ k, 1 ≤ k → k < m → 128 ≤ ((bsL s).get! (i + k)).toNat) : Lib.NoAny s [0, 47] (i + m) := fun j b hj hb => by
  by_cases h1 : j < i
  · exact h j b h1 hb
  · by_cases h2 : j = i
    · subst h2; exact no_high (h0 b hb)
    · have q := hk (j - i) (by omega) (by omega)
      rw [show i + (j - i) = j by omega, bsL_get hb] at q
      exact no_high q

set_option maxHeartbeats 8000000 in
set_option maxRecDepth 1000000 in
theorem ian_short (s : List UInt8) (w : World) (h8 : s.length ≤ 8) :
    Calls Try.prog 33 #[.string (bsL s), .string (bsL [0, 47])] w fun e w' => e = .returned (.int .i64 (Lib.indexAny s [0, 47])) ∧ Below w.heap.size w w' := by
  have hemp : (bsL [0, 47]).toList.isEmpty = false := by rw [bsL_list]; rfl
  have hn1 : (((bsL [0, 47]).size : Int) == 1) = false := by rfl
  have h8z : decide ((8 : Int) < ((bsL s).size : Int)) = false := decide_eq_false (by rw [bsL_size]; omega)
  go_enter Try.func33, Try.ntmps33
  go_wp2_with (go_at_call 38; refine (iuse_at _ _).mono ?_; rintro e w' ⟨rfl, hw⟩; rw [hw, h8z])
  go_loopg [9, 10] (bsL s).size (fun g _ _ wx => ∃ i : Nat, (bsL s).size ≤ i + g ∧ i ≤ (bsL s).size ∧ Below w.heap.size w wx ∧ wx.heap[w.heap.size]? = some (.stringIter (bsL s) i) ∧ Lib.NoAny s [0, 47] i)
  case atStart => exact ⟨0, by omega, by omega, (Below.refl _ w).alloc (Nat.le_refl _) _, World.iter_heap _ _ _, Lib.NoAny.zero _ _⟩
  case round =>
    obtain ⟨i, hig, hin, hB, hit, hno⟩ := hrel
    have HN : Aside (Lib.NoAny s [0, 47] i) := hno
    have HB : Aside (Below w.heap.size w wr) := hB
    clear hno hB
    by_cases hi : i < (bsL s).size
    · cases gk with
      | zero => omega
      | succ g =>
        obtain ⟨x, hx⟩ : ∃ x : UInt8, (bsL s)[i]'hi = x := ⟨_, rfl⟩
        have hxl : s[i]? = some x := by rw [← hx]; exact bsL_at hi
        have Hx : Aside (s[i]? = some x) := hxl
        have hnx := fun ty => run_next_at (P := Try.prog) wr w.heap.size (bsL s) i ty hit hi
        have hk : w.heap.size < wr.heap.size := (Array.getElem?_eq_some_iff.1 hit).1
        by_cases hx128 : x.toNat < 128
        · rw [decode_ascii (bsL s) i hi (by rw [hx]; exact hx128), hx] at hnx
          have hcon := Lib.contains_iff_indexByte [0, 47] x
          have hback : ((x.toNat : Int)).toNat.toUInt8 = x := by simp
          clear hxl
          cases hin2 : ([0, 47] : List UInt8).contains x
          · rw [hin2] at hcon
            have hlt : ¬ ((0 : Int) ≤ Lib.indexByte [0, 47] x) := of_decide_eq_false hcon.symm
            clear hcon
            go_wp2_with (go_at_call 37; refine (irun_at _ _ _ (by omega) (by omega)).mono ?_; rintro e w' ⟨rfl, hw⟩; rw [hw, hback, bsL_data])
            go_roundg g
            case measure => omega
            case rel => exact ⟨i + 1, by omega, by omega, below_itr HB.out (Nat.le_refl _) _ _, itr_heap _ _ hk, HN.out.succ Hx.out hin2⟩
          · rw [hin2] at hcon
            have hge : (0 : Int) ≤ Lib.indexByte [0, 47] x := of_decide_eq_true hcon.symm
            clear hcon
            go_wp2_with (go_at_call 37; refine (irun_at _ _ _ (by omega) (by omega)).mono ?_; rintro e w' ⟨rfl, hw⟩; rw [hw, hback, bsL_data])
            go_ret
            exact ⟨by rw [Lib.indexAny_hit HN.out Hx.out hin2]; rfl, below_itr HB.out (Nat.le_refl _) _ _⟩
        · obtain ⟨d1, d2⟩ := decode_high (bsL s) i hi (by rw [hx]; omega)
          have d3 := decode_le (bsL s) i
          obtain ⟨d4, d5⟩ := decode_skip (bsL s) i hi
          have HS : Aside (Lib.NoAny s [0, 47] (i + (Utf8.decode (bsL s) i).2)) := noAny_skip HN.out (fun b hb => by rw [hxl] at hb; cases hb; omega) d5
          obtain ⟨r, hr⟩ : ∃ r, r = (Utf8.decode (bsL s) i).1 := ⟨_, rfl⟩
          obtain ⟨m, hm⟩ : ∃ m, m = (Utf8.decode (bsL s) i).2 := ⟨_, rfl⟩
          rw [← hr] at d1 d3 hnx
          rw [← hm] at d2 d4 hnx HS
          clear d5 hr hm hxl
          have HR := Lib.hid (fun W => run_hi r W (by omega) (by omega))
          go_wp2_with (go_at_call 37; refine (HR.out _).mono ?_; rintro e w' ⟨rfl, hb⟩)
          go_roundg g
          case measure => omega
          case rel => exact ⟨i + m, by omega, by omega, HB.out.trans ((below_itr (Below.refl _ _) (Nat.le_refl _) _ _).trans (hb.mono (by simp [itr]; omega))), (hb.block _ (by simp [itr]; omega)).trans (itr_heap _ _ hk), HS.out⟩
    · obtain rfl : i = (bsL s).size := by omega
      have hnx := fun ty => run_next_stop (P := Try.prog) wr w.heap.size (bsL s) _ ty hit hi
      go_wp2
      go_ret
      exact ⟨by rw [Lib.indexAny_none (by rw [← bsL_size]; exact HN.out)]; rfl, HB.out⟩

theorem any_all (s : List UInt8) : decide (0 ≤ Lib.indexAny s [0, 47]) = !(s.all fun b => decide (b ≠ 0) && decide (b ≠ 47)) := by
  induction s with
  | nil => rfl
  | cons b r ih =>
    have hge := Lib.indexAny_ge [0, 47] r
    rw [Lib.indexAny, List.all_cons]
    by_cases h0 : b = 0
    · subst h0; rfl
    · by_cases h1 : b = 47
      · subst h1; rfl
      · have hc : ([0, 47] : List UInt8).contains b = false := by simp [h0, h1]
        rw [hc, if_neg (by simp)]
        have hd : (decide (b ≠ 0) && decide (b ≠ 47)) = true := by simp [h0, h1]
        rw [hd, Bool.true_and, ← ih]
        by_cases hm : Lib.indexAny r [0, 47] = -1
        · rw [hm]; rfl
        · rw [if_neg (by simpa using hm)]
          exact decide_eq_decide.2 (by omega)
theorem ian_at (s : List UInt8) (w : World) (hs : s.length < 4294967281) :
    Calls Try.prog 33 #[.string (bsL s), .string (bsL [0, 47])] w fun e w' => e = .returned (.int .i64 (Lib.indexAny s [0, 47])) ∧ Below w.heap.size w w' := by
  by_cases h : s.length ≤ 8
  · exact ian_short s w h
  · exact ian_long s w (by omega) hs
theorem has_at (s : List UInt8) (w : World) (hs : s.length < 4294967281) :
    Calls Try.prog 27 #[.string (bsL s), .string (bsL [0, 47])] w fun e w' => e = .returned (.bool (!(s.all fun b => decide (b ≠ 0) && decide (b ≠ 47)))) ∧ Below w.heap.size w w' := by
  rw [← any_all]
  have HI := Lib.hid (fun W => ian_at s W hs)
  go_enter Try.func27, Try.ntmps27
  go_wp2_with (go_at_call 33; refine (HI.out _).mono ?_; rintro e w' ⟨rfl, hb⟩)
  go_ret
  exact ⟨rfl, hb⟩
theorem nameP_eq {s : List UInt8} (h0 : s ≠ []) (h1 : ¬ 32 < s.length) (h2 : s ≠ [46]) (h3 : s ≠ [46, 46]) : nameP s = s.all fun b => decide (b ≠ 0) && decide (b ≠ 47) := by
  have : 1 ≤ s.length := by cases s with | nil => exact absurd rfl h0 | cons _ _ => simp
  unfold nameP
  rw [decide_eq_true this, decide_eq_true (by omega : s.length ≤ 32), decide_eq_true h2, decide_eq_true h3]
  rfl
theorem nameP_no {s : List UInt8} (h : s = [] ∨ 32 < s.length ∨ s = [46] ∨ s = [46, 46]) : nameP s = false := by
  rcases h with rfl | h | rfl | rfl
  · rfl
  · have : decide (s.length ≤ 32) = false := decide_eq_false (by omega)
    unfold nameP
    rw [this]
    simp
  · rfl
  · rfl
theorem bs_eq (s t : List UInt8) : ((bsL s).toList == (bsL t).toList) = decide (s = t) := by
  rw [bsL_list, bsL_list]
  by_cases h : s = t
  · subst h; simp
  · simp [h]
theorem bs_empty {s : List UInt8} (h : s ≠ []) : (bsL s).toList.isEmpty = false := by
  rw [bsL_list]
  cases s with
  | nil => exact absurd rfl h
  | cons _ _ => rfl
/-- What a name's check says. -/
def nmE (s : List UInt8) : Int := if nameP s then 0 else 18

set_option maxHeartbeats 2000000 in
set_option maxRecDepth 1000000 in
theorem dname_at (s : List UInt8) (w : World) : Calls Try.prog 19 #[.string (bsL s)] w fun e w' => e = .returned (.int .i64 (nmE s)) ∧ Below w.heap.size w w' := by
  by_cases h0 : s = []
  · subst h0
    have hl := bsL_list []
    have hz : (bsL []).size = 0 := rfl
    go_enter Try.func19, Try.ntmps19
    go_wp2
    go_ret
    exact ⟨rfl, Below.refl _ _⟩
  have hl := bsL_list s
  have hz := bsL_size s
  by_cases h1 : 32 < s.length
  · have hE : nmE s = 18 := by unfold nmE; rw [nameP_no (.inr (.inl h1))]; rfl
    have i1 : (32 : Int) < ((bsL s).size : Int) := by omega
    rw [hE]
    go_enter Try.func19, Try.ntmps19
    go_wp2
    go_ret
    exact ⟨rfl, Below.refl _ _⟩
  have i1 : ¬ ((32 : Int) < ((bsL s).size : Int)) := by omega
  by_cases h2 : s = [46]
  · subst h2
    have hz : (bsL [46]).size = 1 := rfl
    go_enter Try.func19, Try.ntmps19
    go_wp2
    go_ret
    exact ⟨rfl, Below.refl _ _⟩
  by_cases h3 : s = [46, 46]
  · subst h3
    have hz : (bsL [46, 46]).size = 2 := rfl
    go_enter Try.func19, Try.ntmps19
    go_wp2
    go_ret
    exact ⟨rfl, Below.refl _ _⟩
  have hE : nmE s = if (s.all fun b => decide (b ≠ 0) && decide (b ≠ 47)) then 0 else 18 := by unfold nmE; rw [nameP_eq h0 h1 h2 h3]
  rw [hE]
  have HI := Lib.hid (fun W => has_at s W (by omega))
  have f0 : s.isEmpty = false := by simpa using h0
  have f1 : decide ((32 : Int) < (s.length : Int)) = false := decide_eq_false (by omega)
  have f2 : (s == [46]) = false := by simpa using h2
  have f3 : (s == [46, 46]) = false := by simpa using h3
  obtain ⟨q, hq⟩ : ∃ q, q = s.all fun b => decide (b ≠ 0) && decide (b ≠ 47) := ⟨_, rfl⟩
  rw [← hq] at HI ⊢
  clear hq hE
  cases q
  all_goals
    go_enter Try.func19, Try.ntmps19
    go_wp2_with (go_at_call 27; refine (HI.out _).mono ?_; rintro e w' ⟨rfl, hb⟩)
    go_ret
    exact ⟨rfl, hb⟩

set_option maxHeartbeats 2000000 in
set_option maxRecDepth 1000000 in
theorem rname_all (s : List UInt8) (w : World) : Calls Try.prog 15 #[.string (bsL s)] w fun e w' => e = .returned (.int .i64 (nmE s)) ∧ w' = w := by
  have hl := bsL_list s
  by_cases h0 : s = []
  · subst h0
    have hz : (bsL []).size = 0 := rfl
    go_enter Try.func15, Try.ntmps15
    go_wp2
    go_ret
    exact ⟨rfl, rfl⟩
  have hz := bsL_size s
  have i0 : ¬ (((bsL s).size : Int) < 1) := by
    have : 1 ≤ s.length := by cases s with | nil => exact absurd rfl h0 | cons _ _ => simp
    omega
  by_cases h1 : 32 < s.length
  · have hE : nmE s = 18 := by unfold nmE; rw [nameP_no (.inr (.inl h1))]; rfl
    have i1 : (32 : Int) < ((bsL s).size : Int) := by omega
    rw [hE]
    go_enter Try.func15, Try.ntmps15
    go_wp2
    go_ret
    exact ⟨rfl, rfl⟩
  have i1 : ¬ ((32 : Int) < ((bsL s).size : Int)) := by omega
  by_cases h2 : s = [46]
  · subst h2
    have hz : (bsL [46]).size = 1 := rfl
    go_enter Try.func15, Try.ntmps15
    go_wp2
    go_ret
    exact ⟨rfl, rfl⟩
  by_cases h3 : s = [46, 46]
  · subst h3
    have hz : (bsL [46, 46]).size = 2 := rfl
    go_enter Try.func15, Try.ntmps15
    go_wp2
    go_ret
    exact ⟨rfl, rfl⟩
  have hE : nmE s = if (s.all fun b => decide (b ≠ 0) && decide (b ≠ 47)) then 0 else 18 := by unfold nmE; rw [nameP_eq h0 h1 h2 h3]
  have f0 : decide ((s.length : Int) < 1) = false := decide_eq_false (by omega)
  have f1 : decide ((32 : Int) < (s.length : Int)) = false := decide_eq_false (by omega)
  have f2 : (s == [46]) = false := by simpa using h2
  have f3 : (s == [46, 46]) = false := by simpa using h3
  obtain ⟨q, hq⟩ : ∃ q, q = nmE s := ⟨_, rfl⟩
  rw [← hq]
  rw [hE] at hq
  have HQ := Lib.hid hq
  clear hq
  have HAt := Lib.hid (fun k (h : k < (bsL s).size) => bsL_at h)
  obtain ⟨S, hS⟩ : ∃ S, S = bsL s := ⟨_, rfl⟩
  rw [← hS] at HAt hl hz i0 i1 ⊢
  clear hS hE h0 h1 h2 h3
  go_enter Try.func15, Try.ntmps15
  go_wp2
  have HZ := Lib.hid hz
  have hS9 : S.size ≤ 4294967280 := by omega
  clear hl hz f0 f1 f2 f3 i0 i1
  go_loopw [3] (fun i wr => ∃ k : Nat, k ≤ S.size ∧ i = .int .i64 k ∧ w = wr ∧ ∀ j b, j < k → s[j]? = some b → b ≠ 0 ∧ b ≠ 47) (fun i _ => S.size - (intOf i).toNat)
  case atStart => exact ⟨0, by omega, rfl, rfl, fun j b h => absurd h (by omega)⟩
  case round =>
    obtain ⟨k, hk, rfl, rfl, hall⟩ := hrel
    have HA := Lib.hid hall
    clear hall
    by_cases hi : k < S.size
    · obtain ⟨x, hx⟩ : ∃ x : UInt8, S[k]'hi = x := ⟨_, rfl⟩
      have HX := Lib.hid (show s[k]? = some x by rw [← hx]; exact HAt.out k hi)
      by_cases x0 : x = 0
      · have HF := Lib.hid (show (s.all fun b => decide (b ≠ 0) && decide (b ≠ 47)) = false by
          rw [List.all_eq_false]; exact ⟨x, List.mem_of_getElem? HX.out, by rw [x0]; decide⟩)
        have t0 : ((x.toNat : Int) == 0) = true := by rw [x0]; rfl
        clear x0
        go_wp2
        go_ret
        exact ⟨by rw [HQ.out, HF.out]; rfl, rfl⟩
      · by_cases x1 : x = 47
        · have HF := Lib.hid (show (s.all fun b => decide (b ≠ 0) && decide (b ≠ 47)) = false by
            rw [List.all_eq_false]; exact ⟨x, List.mem_of_getElem? HX.out, by rw [x1]; decide⟩)
          have t0 : ((x.toNat : Int) == 0) = false := by rw [x1]; rfl
          have t1 : ((x.toNat : Int) == 47) = true := by rw [x1]; rfl
          clear x1 x0
          go_wp2
          go_ret
          exact ⟨by rw [HQ.out, HF.out]; rfl, rfl⟩
        · have n0 : ((x.toNat : Int) == 0) = false := by
            rw [beq_eq_false_iff_ne]; intro e; apply x0; apply UInt8.toNat_inj.1; have e2 : x.toNat = 0 := by omega
            rw [e2]; rfl
          have n1 : ((x.toNat : Int) == 47) = false := by
            rw [beq_eq_false_iff_ne]; intro e; apply x1; apply UInt8.toNat_inj.1; have e2 : x.toNat = 47 := by omega
            rw [e2]; rfl
          have HX0 := Lib.hid (And.intro x0 x1)
          clear x0 x1
          go_wp2
          go_roundw
          case rel => exact ⟨k + 1, by omega, by go_num, trivial, fun j b hj hb => by
            by_cases hjk : j = k
            · subst hjk; rw [HX.out] at hb; cases hb; exact HX0.out
            · exact HA.out j b (by omega) hb⟩
          case measure => simp [intOf]; omega
    · obtain rfl : k = S.size := by omega
      have HF := Lib.hid (show (s.all fun b => decide (b ≠ 0) && decide (b ≠ 47)) = true by
        rw [List.all_eq_true]
        intro b hb
        obtain ⟨j, hj⟩ := List.getElem?_of_mem hb
        have q := HA.out j b (by rw [HZ.out]; exact (List.getElem?_eq_some_iff.1 hj).1) hj
        simp [q.1, q.2])
      go_wp2
      go_ret
      exact ⟨by rw [HQ.out, HF.out]; rfl, rfl⟩
theorem rname_at (s : List UInt8) (w : World) (_ : s.length ≤ 4294967280) : Calls Try.prog 15 #[.string (bsL s)] w fun e w' => e = .returned (.int .i64 (nmE s)) ∧ w' = w := rname_all s w

end Go.Proofs.Ytnmenihahgggmaa
