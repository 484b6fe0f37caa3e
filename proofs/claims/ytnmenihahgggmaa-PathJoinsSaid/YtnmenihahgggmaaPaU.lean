/-
  Layer 18: a way's text, by the program and by the document; are two ways the same.
-/
import Derived.Test.YtnmenihahgggmaaPaT
namespace Go.Proofs.Ytnmenihahgggmaa
open Go.RowKit Go.Shelf

theorem pre47 (X : List UInt8) : (⟨#[47]⟩ : ByteArray) ++ bsL X = bsL (47 :: X) := by
  apply bsL_of
  rw [ByteArray.data_append]
  simp [bsL]
theorem suf47 (X : List UInt8) : bsL X ++ (⟨#[47]⟩ : ByteArray) = bsL (X ++ [47]) := by
  apply bsL_of
  rw [ByteArray.data_append]
  simp [bsL]
theorem join_any (ao : Option Addr) (c : Nat) (L : List (List UInt8)) (w : World) (h : SlS w (.slice ao L.length c) L) (hN : L.length ≤ 1000) (hlen : (joinS L).length ≤ 1000000) :
    Calls Try.prog 20 #[.slice ao L.length c, .string (bsL [47])] w fun e w' => e = .returned (.string (bsL (joinS L))) ∧ Below w.heap.size w w' := by
  by_cases hL : L = []
  · subst hL; exact join_none ao c w
  · obtain ⟨k, o, rfl, hk⟩ := h.addr hL
    obtain ⟨_, h2, h3, _⟩ := h.some
    exact join_some k o c L w (fun j x hj => (h2.cell hj).1) hk (by omega) h3 (by omega)
set_option maxRecDepth 100000 in
set_option maxHeartbeats 4000000 in
theorem text_at (a d : Bool) (L : List (List UInt8)) (ao : Option Addr) (cap : Nat) (w : World) (h : SlS w (.slice ao L.length cap) L) (hN : L.length ≤ 1000) (hlen : (joinS L).length ≤ 1000000) :
    Calls Try.prog 11 #[.agg #[.bool a, .slice ao L.length cap, .bool d]] w fun e w' => e = .returned (.string (bsL (textP a L d))) ∧ Gr [] w w' := by
  have HH := Lib.hid (Holds.new w #[.bool a, .slice ao L.length cap, .bool d] 24)
  have HJ := Lib.hid (join_any ao cap L (w.alloc (.cells #[.bool a, .slice ao L.length cap, .bool d] 24)) (h.gr0 ((Gr.refl [] w).alloc _)) hN hlen)
  obtain ⟨X, hX⟩ : ∃ X, X = joinS L := ⟨_, rfl⟩
  rw [← hX] at HJ hlen
  have p47 := pre47 X
  have s47 := suf47 X
  have q47 := suf47 (47 :: X)
  have z1 := bsL_size X
  have z2 : (bsL (47 :: X)).size = X.length + 1 := bsL_size _
  have z3 : (⟨#[47]⟩ : ByteArray).size = 1 := rfl
  have n1 : ¬ (9223372036854775807 < 1 + X.length) := by omega
  have n2 : ¬ (9223372036854775807 < X.length + 1) := by omega
  have n3 : ¬ (9223372036854775807 < X.length + 1 + 1) := by omega
  have h0 := HH.out.cell 0; have h1 := HH.out.cell 1; have h2 := HH.out.cell 2
  by_cases hL : L = []
  · subst hL
    obtain rfl : X = [] := hX
    clear h
    cases a <;> cases d
    all_goals
      go_enter Try.func11, Try.ntmps11
      go_wp2_with (go_at_call 20; refine HJ.out.mono ?_; rintro e w1 ⟨rfl, hb⟩; have HH1 := HH.out.below hb; have j0 := HH1.cell 0; have j1 := HH1.cell 1; have j2 := HH1.cell 2)
      go_ret
      exact ⟨rfl, ((Gr.refl [] w).alloc _).nextB hb⟩
  · have hl0 : ((L.length : Int) == 0) = false := by
      rw [beq_eq_false_iff_ne]
      cases L with
      | nil => exact absurd rfl hL
      | cons _ _ => simp; omega
    have hl1 : (0 : Int) < (L.length : Int) := by
      cases L with
      | nil => exact absurd rfl hL
      | cons _ _ => simp
    have HT := Lib.hid (show textP a L d = if a then 47 :: (X ++ if d then [47] else []) else X ++ (if d then [47] else []) by
      rw [hX]; unfold textP; cases a <;> cases d <;> simp [hL])
    rw [HT.out]
    clear hL h hX
    cases a <;> cases d
    all_goals
      go_enter Try.func11, Try.ntmps11
      go_wp2_with (go_at_call 20; refine HJ.out.mono ?_; rintro e w1 ⟨rfl, hb⟩; have HH1 := HH.out.below hb; have j0 := HH1.cell 0; have j1 := HH1.cell 1; have j2 := HH1.cell 2)
      go_ret
      exact ⟨by simp, ((Gr.refl [] w).alloc _).nextB hb⟩

/-- What has been written when k parts are. -/
def soFar (a : Bool) (L : List (List UInt8)) (k : Nat) : List UInt8 := (if a then [47] else []) ++ joinS (L.take k)
theorem soFar_succ (a : Bool) {L : List (List UInt8)} {k : Nat} {x : List UInt8} (h : L[k]? = some x) : soFar a L (k + 1) = if k = 0 then soFar a L 0 ++ x else soFar a L k ++ [47] ++ x := by
  obtain ⟨h1, h2⟩ := List.getElem?_eq_some_iff.1 h
  unfold soFar
  rw [List.take_succ_eq_append_getElem h1, h2, joinS_snoc]
  by_cases hk : k = 0
  · subst hk; simp [joinS_nil]
  · have : L.take k ≠ [] := by
      intro e
      have := congrArg List.length e
      rw [List.length_take] at this
      simp only [List.length_nil] at this
      omega
    rw [if_neg this, if_neg hk]
    simp
theorem soFar_len (a : Bool) (L : List (List UInt8)) (k : Nat) : (soFar a L k).length ≤ 1 + ((L.map List.length).sum + L.length) := by
  have h1 := joinS_len (L.take k)
  have h2 : ((L.take k).map List.length).sum ≤ (L.map List.length).sum := by
    conv => rhs; rw [← List.take_append_drop k L, List.map_append, List.sum_append]
    omega
  have h3 : (L.take k).length ≤ L.length := by rw [List.length_take]; omega
  unfold soFar
  cases a <;> simp <;> omega
theorem mem_sum {x : List UInt8} {L : List (List UInt8)} (h : x ∈ L) : x.length ≤ (L.map List.length).sum := by
  induction L with
  | nil => cases h
  | cons y r ih =>
    rcases List.mem_cons.1 h with rfl | h
    · simp
    · have := ih h
      simp only [List.map_cons, List.sum_cons]; omega
theorem bs_app (X Y : List UInt8) : bsL X ++ bsL Y = bsL (X ++ Y) := by
  apply bsL_of
  rw [ByteArray.data_append]
  simp [bsL]
set_option maxRecDepth 100000 in
set_option maxHeartbeats 4000000 in
theorem rtext_at (a d : Bool) (L : List (List UInt8)) (ao : Option Addr) (cap : Nat) (w : World) (h : SlS w (.slice ao L.length cap) L) (hN : L.length ≤ 1000) (hlen : (L.map List.length).sum ≤ 1000000) (hp : ∀ p ∈ L, p ≠ []) :
    Calls Try.prog 12 #[.agg #[.bool a, .slice ao L.length cap, .bool d]] w fun e w' => e = .returned (.string (bsL (textP a L d))) ∧ Gr [] w w' := by
  have HH := Lib.hid (Holds.new w #[.bool a, .slice ao L.length cap, .bool d] 28)
  have h0 := HH.out.cell 0; have h1 := HH.out.cell 1; have h2 := HH.out.cell 2
  have HS := Lib.hid (h.gr0 ((Gr.refl [] w).alloc (Obj.cells #[.bool a, .slice ao L.length cap, .bool d] 28)))
  have HL := Lib.hid (fun k => soFar_len a L k)
  obtain ⟨N, hNN⟩ : ∃ N, N = L.length := ⟨_, rfl⟩
  rw [← hNN] at hN HH h0 h1 h2 HS ⊢
  have HNN := Lib.hid hNN
  clear h hNN
  have HP := Lib.hid hp
  clear hp
  cases a with
  | false =>
    go_enter Try.func12, Try.ntmps12
    go_wp2
    go_loopw [3, 4] (fun s i wr => ∃ k : Nat, k ≤ N ∧ s = .string (bsL (soFar false L k)) ∧ i = .int .i64 k ∧ wr = w.alloc (Obj.cells #[.bool false, .slice ao N cap, .bool d] 28)) (fun _ i _ => N - (intOf i).toNat)
    case atStart => exact ⟨0, by omega, by rfl, rfl, rfl⟩
    case round =>
      obtain ⟨k, hk, rfl, rfl, rfl⟩ := hrel
      have HX := HL.out k
      have HX2 := Lib.hid HX
      by_cases hlt : k < N
      · have ik : (k : Int) < (N : Int) := by omega
        obtain ⟨x, hx⟩ : ∃ x, L[k]? = some x := ⟨_, List.getElem?_eq_getElem (by have := HNN.out; omega)⟩
        have hxl : x.length ≤ 1000000 := by
          have : x.length ≤ (L.map List.length).sum := mem_sum (List.mem_of_getElem? hx)
          omega
        obtain ⟨bk, o, rfl, hbk⟩ := HS.out.addr' hx
        have hc : World.cell? _ ⟨bk, o + k, none⟩ = some (.string (bsL x)) := (HS.out.some.2.1.cell hx).1
        have HNL := HNN.out
        obtain ⟨Y, hY⟩ : ∃ Y, Y = soFar false L k := ⟨_, rfl⟩
        rw [← hY] at HX ⊢
        have hss := soFar_succ false hx
        have z1 := bsL_size Y
        have z2 := bsL_size x
        have z3 : (⟨#[47]⟩ : ByteArray).size = 1 := rfl
        have z4 : (bsL (Y ++ [47])).size = Y.length + 1 := by rw [bsL_size]; simp
        have a1 := suf47 Y
        have a2 := bs_app Y x
        have a3 := bs_app (Y ++ [47]) x
        have m1 : ¬ (9223372036854775807 < Y.length + 1) := by omega
        have m2 : ¬ (9223372036854775807 < Y.length + x.length) := by omega
        have m3 : ¬ (9223372036854775807 < Y.length + 1 + x.length) := by omega
        by_cases k0 : k = 0
        · subst k0
          rw [if_pos rfl, ← hY] at hss
          have HE := Lib.hid hss
          rw [Nat.add_zero] at hc
          clear hss hY HX hx HNL
          go_wp2
          go_roundw
          case rel => exact ⟨0 + 1, by omega, by rw [HE.out], by go_num, by first | rfl | trivial⟩
          case measure => simp [intOf]; omega
        · rw [if_neg k0, ← hY] at hss
          have HE := Lib.hid hss
          have ik0 : (0 : Int) < (k : Int) := by omega
          clear hss hY HX hx HNL
          go_wp2
          go_roundw
          case rel => exact ⟨k + 1, by omega, by rw [HE.out]; simp, by go_num, by first | rfl | trivial⟩
          case measure => simp [intOf]; omega
      · obtain rfl : k = N := by omega
        have ik : ¬ ((k : Int) < (k : Int)) := by omega
        have hE : soFar false L k = joinS L := by unfold soFar; rw [HNN.out, List.take_length]; rfl
        rw [hE] at HX ⊢
        obtain ⟨X, hX⟩ : ∃ X, X = joinS L := ⟨_, rfl⟩
        rw [← hX] at HX hE ⊢
        have z1 : (bsL (X)).size = (X).length := bsL_size _
        have z3 : (⟨#[47]⟩ : ByteArray).size = 1 := rfl
        have a1 := suf47 (X)
        have l1 := bsL_list (X)
        have l2 := bsL_list ((X ++ [47]))
        have m1 : ¬ (9223372036854775807 < (X).length + 1) := by have := HX2.out; have hq := HNN.out; rw [hE] at this; omega
        by_cases hL : L = []
        · have hk0 : k = 0 := by rw [HNN.out, hL]; rfl
          have HT := Lib.hid (show textP false L d = [46] by rw [hL]; cases d <;> rfl)
          have hX0 : X = [] := by rw [hX, hL]; rfl
          subst hk0
          subst hX0
          clear hL hX hE HX
          cases d
          all_goals
            go_wp2
            go_ret
            exact ⟨by rw [HT.out]; rfl, (Gr.refl [] w).alloc _⟩
        · have hX0 : X ≠ [] := by rw [hX]; exact joinS_ne hL HP.out
          have f0 : X.isEmpty = false := by simpa using hX0
          have f2 : ((X ++ [47])).isEmpty = false := by simp
          have hk0 : 0 < k := by rw [HNN.out]; cases L with | nil => exact absurd rfl hL | cons _ _ => simp
          have ik0 : (0 : Int) < (k : Int) := by omega
          have HT := Lib.hid (show textP false L d = (X ++ if d then [47] else []) by
            rw [hX]; unfold textP; cases d <;> simp [hL])
          clear hL hX hE HX
          cases d
          all_goals
            go_wp2
            go_ret
            exact ⟨by rw [HT.out]; simp, (Gr.refl [] w).alloc _⟩
  | true =>
    go_enter Try.func12, Try.ntmps12
    go_wp2
    go_loopw [3, 4] (fun s i wr => ∃ k : Nat, k ≤ N ∧ s = .string (bsL (soFar true L k)) ∧ i = .int .i64 k ∧ wr = w.alloc (Obj.cells #[.bool true, .slice ao N cap, .bool d] 28)) (fun _ i _ => N - (intOf i).toNat)
    case atStart => exact ⟨0, by omega, by rfl, rfl, rfl⟩
    case round =>
      obtain ⟨k, hk, rfl, rfl, rfl⟩ := hrel
      have HX := HL.out k
      have HX2 := Lib.hid HX
      by_cases hlt : k < N
      · have ik : (k : Int) < (N : Int) := by omega
        obtain ⟨x, hx⟩ : ∃ x, L[k]? = some x := ⟨_, List.getElem?_eq_getElem (by have := HNN.out; omega)⟩
        have hxl : x.length ≤ 1000000 := by
          have : x.length ≤ (L.map List.length).sum := mem_sum (List.mem_of_getElem? hx)
          omega
        obtain ⟨bk, o, rfl, hbk⟩ := HS.out.addr' hx
        have hc : World.cell? _ ⟨bk, o + k, none⟩ = some (.string (bsL x)) := (HS.out.some.2.1.cell hx).1
        have HNL := HNN.out
        obtain ⟨Y, hY⟩ : ∃ Y, Y = soFar true L k := ⟨_, rfl⟩
        rw [← hY] at HX ⊢
        have hss := soFar_succ true hx
        have z1 := bsL_size Y
        have z2 := bsL_size x
        have z3 : (⟨#[47]⟩ : ByteArray).size = 1 := rfl
        have z4 : (bsL (Y ++ [47])).size = Y.length + 1 := by rw [bsL_size]; simp
        have a1 := suf47 Y
        have a2 := bs_app Y x
        have a3 := bs_app (Y ++ [47]) x
        have m1 : ¬ (9223372036854775807 < Y.length + 1) := by omega
        have m2 : ¬ (9223372036854775807 < Y.length + x.length) := by omega
        have m3 : ¬ (9223372036854775807 < Y.length + 1 + x.length) := by omega
        by_cases k0 : k = 0
        · subst k0
          rw [if_pos rfl, ← hY] at hss
          have HE := Lib.hid hss
          rw [Nat.add_zero] at hc
          clear hss hY HX hx HNL
          go_wp2
          go_roundw
          case rel => exact ⟨0 + 1, by omega, by rw [HE.out], by go_num, by first | rfl | trivial⟩
          case measure => simp [intOf]; omega
        · rw [if_neg k0, ← hY] at hss
          have HE := Lib.hid hss
          have ik0 : (0 : Int) < (k : Int) := by omega
          clear hss hY HX hx HNL
          go_wp2
          go_roundw
          case rel => exact ⟨k + 1, by omega, by rw [HE.out]; simp, by go_num, by first | rfl | trivial⟩
          case measure => simp [intOf]; omega
      · obtain rfl : k = N := by omega
        have ik : ¬ ((k : Int) < (k : Int)) := by omega
        have hE : soFar true L k = 47 :: joinS L := by unfold soFar; rw [HNN.out, List.take_length]; rfl
        rw [hE] at HX ⊢
        obtain ⟨X, hX⟩ : ∃ X, X = joinS L := ⟨_, rfl⟩
        rw [← hX] at HX hE ⊢
        have z1 : (bsL (47 :: X)).size = (47 :: X).length := bsL_size _
        have z3 : (⟨#[47]⟩ : ByteArray).size = 1 := rfl
        have a1 := suf47 (47 :: X)
        have l1 := bsL_list (47 :: X)
        have l2 := bsL_list (47 :: (X ++ [47]))
        have m1 : ¬ (9223372036854775807 < (47 :: X).length + 1) := by have := HX2.out; have hq := HNN.out; rw [hE] at this; omega
        by_cases hL : L = []
        · have hk0 : k = 0 := by rw [HNN.out, hL]; rfl
          have HT := Lib.hid (show textP true L d = [47] by rw [hL]; cases d <;> rfl)
          have hX0 : X = [] := by rw [hX, hL]; rfl
          subst hk0
          subst hX0
          clear hL hX hE HX
          cases d
          all_goals
            go_wp2
            go_ret
            exact ⟨by rw [HT.out]; rfl, (Gr.refl [] w).alloc _⟩
        · have hX0 : X ≠ [] := by rw [hX]; exact joinS_ne hL HP.out
          have f0 : X.isEmpty = false := by simpa using hX0
          have f2 : (47 :: (X ++ [47])).isEmpty = false := by simp
          have hk0 : 0 < k := by rw [HNN.out]; cases L with | nil => exact absurd rfl hL | cons _ _ => simp
          have ik0 : (0 : Int) < (k : Int) := by omega
          have HT := Lib.hid (show textP true L d = 47 :: (X ++ if d then [47] else []) by
            rw [hX]; unfold textP; cases d <;> simp [hL])
          clear hL hX hE HX
          cases d
          all_goals
            go_wp2
            go_ret
            exact ⟨by rw [HT.out]; simp, (Gr.refl [] w).alloc _⟩

end Go.Proofs.Ytnmenihahgggmaa
