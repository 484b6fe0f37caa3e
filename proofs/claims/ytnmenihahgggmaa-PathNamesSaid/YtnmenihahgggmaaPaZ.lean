/-
  Layer 18: PathNames.
-/
import Derived.Test.YtnmenihahgggmaaPaX
namespace Go.Proofs.Ytnmenihahgggmaa
open Go.RowKit Go.Shelf

/-- A path of just these parts. -/
def slashed : List (List UInt8) → List UInt8
  | [] => []
  | p :: r => 47 :: (p ++ slashed r)
theorem slashed_snoc (K : List (List UInt8)) (p : List UInt8) : slashed (K ++ [p]) = slashed K ++ 47 :: p := by
  induction K with
  | nil => simp [slashed]
  | cons q r ih => simp [slashed, ih]
theorem slashed_text {K : List (List UInt8)} (h : K ≠ []) : slashed K = textP true K false := by
  have key : slashed K = 47 :: joinS K := by
    induction K with
    | nil => exact absurd rfl h
    | cons p r ih =>
      cases r with
      | nil => simp [slashed, joinS_one]
      | cons q r => rw [slashed, joinS_cons, ih (by simp)]
  rw [key]
  simp [textP]
theorem slashed_len {K : List (List UInt8)} (h : ∀ p ∈ K, p.length ≤ 32) : (slashed K).length ≤ 33 * K.length := by
  induction K with
  | nil => simp [slashed]
  | cons p r ih =>
    have h1 := h p (by simp)
    have h2 := ih (fun q hq => h q (by simp [hq]))
    simp only [slashed, List.length_cons, List.length_append]
    omega
/-- What Parse says of a path of names. -/
theorem names_back {K : List (List UInt8)} (hn : ∀ p ∈ K, nameP p = true) (h0 : K ≠ []) (h7 : K.length ≤ 7) :
    errP (slashed K) = 0 ∧ wayL (slashed K) = K ∧ wayA (slashed K) = true ∧ wayD (slashed K) = false := by
  have hp : ∀ p ∈ K, 47 ∉ p ∧ p ≠ [] ∧ p ≠ [46] := fun p hp => by
    have := name_parts (hn p hp)
    exact ⟨this.1, this.2.1, this.2.2.1⟩
  have ho : K.all okP = true := by
    rw [List.all_eq_true]
    intro p hp
    simp [okP, hn p hp]
  have hl := slashed_len (K := K) (fun p hp => (name_parts (hn p hp)).2.2.2)
  have he := err_text true false hp ho
  rw [← slashed_text h0, if_neg (by omega)] at he
  refine ⟨he, ?_, ?_, ?_⟩
  · show (if errP (slashed K) = 0 then partsP (slashed K) else []) = _
    rw [if_pos he, slashed_text h0, parts_text _ _ hp]
  · show (decide (errP (slashed K) = 0) && absP (slashed K)) = _
    rw [decide_eq_true he, Bool.true_and, slashed_text h0, abs_text _ _ hp]
  · show (decide (errP (slashed K) = 0) && dirP (slashed K)) = _
    rw [decide_eq_true he, Bool.true_and, slashed_text h0, dir_text _ _ hp]
    simp [h0]
/-- The names among the first k. -/
def nmK (L : List (List UInt8)) (k : Nat) : List (List UInt8) := (L.take k).filter nameP
theorem nmK_succ {L : List (List UInt8)} {k : Nat} {x : List UInt8} (h : L[k]? = some x) : nmK L (k + 1) = if nameP x then nmK L k ++ [x] else nmK L k := by
  obtain ⟨h1, h2⟩ := List.getElem?_eq_some_iff.1 h
  unfold nmK
  rw [List.take_succ_eq_append_getElem h1, h2, List.filter_append]
  by_cases hx : nameP x = true <;> simp [hx]
theorem nmK_len (L : List (List UInt8)) (k : Nat) : (nmK L k).length ≤ k ∧ ∀ p ∈ nmK L k, nameP p = true := by
  constructor
  · have h1 := List.length_filter_le nameP (L.take k)
    rw [List.length_take] at h1
    unfold nmK
    omega
  · intro p hp
    exact (List.mem_filter.1 hp).2
/-- The second half: what is done with the way of the path of names. -/
theorem pre_add (X p : List UInt8) : bsL X ++ ((⟨#[47]⟩ : ByteArray) ++ bsL p) = bsL (X ++ 47 :: p) := by
  rw [pre47, bs_app]

theorem beq_len (n : Nat) : ((n : Int) == 0) = decide (n = 0) := by rw [Bool.eq_iff_iff]; simp
set_option maxRecDepth 100000 in
set_option maxHeartbeats 16000000 in
theorem names_any {w : World} (S : ByteArray) (T : List UInt8) (L K1 : List (List UInt8)) (ao : Option Addr) (cap : Nat) (A D : Bool) (E : Int) (n m : Nat) (hm : m = min S.size 300) (hT : S.extract 0 m = bsL T) (h : SlS w (.slice ao L.length cap) L)
    (hs : S.size ≤ 2 ^ 63 - 1)
    (hP : ∀ W, Calls Try.prog 7 #[.string (bsL T)] W fun e w' => ∃ ao cap, e = .returned (.tuple #[.agg #[.bool A, .slice ao n cap, .bool D], .int .i64 E]) ∧ SlS w' (.slice ao n cap) K1 ∧ Gr [] W w')
    (hn : n = K1.length) (hn2 : n ≤ 257) (hok : K1.all okP = true) (hc : E = 0 ∨ (E ≠ 0 ∧ A = false ∧ D = false ∧ n = 0)) :
    Calls Try.prog 6 #[.string S, .slice ao L.length cap] w fun e w' => e = .returned (.bool true) ∧ Below w.heap.size w w' := by
  have hmn := minAB Try.prog (S.size : Int) 300 m (by omega)
  have hm1 : m ≤ S.size := by omega
  clear hm
  have HL := Lib.hid h
  have hcapm : L.length ≤ cap := h.some.2.2.1
  have hcap9 : cap ≤ 9223372036854775807 := h.some.2.2.2.1
  clear h
  obtain ⟨N, hN⟩ : ∃ N, N = L.length := ⟨_, rfl⟩
  rw [← hN] at HL hcapm ⊢
  have HNN := Lib.hid hN
  clear hN
  obtain ⟨m7, hm7⟩ : ∃ m : Nat, m = min N 7 := ⟨_, rfl⟩
  have hmn7 := minAB Try.prog (N : Int) 7 m7 (by omega)
  have hm71 : m7 ≤ N := by omega
  have hm72 : m7 ≤ 7 := by omega
  clear hm7
  have HP1 := Lib.hid hP
  have HC := Lib.hid hc
  have HK := Lib.hid (And.intro hn hok)
  clear hP hc hn hok
  have HP := Lib.hid (fun s W => parse_u s W)
  have HN := Lib.hid (fun s W => rname_all s W)
  have HW := Lib.hid wakes18_any
  have G := Gr.refl [] w
  go_enter Try.func6, Try.ntmps6
  go_wp2_with (first
    | (go_at_call 7; (with_reducible refine (HP1.out _).mono ?_); rintro e w1 ⟨ao1, cap1, rfl, hs1, g1⟩; have G := (G.next0 g1).alloc (Obj.cells #[.bool A, .slice ao1 n cap1, .bool D] 24); have HB := Holds.new w1 #[.bool A, .slice ao1 n cap1, .bool D] 24; have HS1 := Lib.hid (hs1.gr0 ((Gr.refl [] w1).alloc (Obj.cells #[.bool A, .slice ao1 n cap1, .bool D] 24))); have b0 := HB.cell 0; have b1 := HB.cell 1; have b2 := HB.cell 2))
  have HLW := Lib.hid (HL.out.gr0 G)
  have HG := Lib.hid G
  clear hs1 g1 G HL hmn hm1 hT
  generalize (w1.alloc (Obj.cells #[.bool A, .slice ao1 n cap1, .bool D] 24)) = W at *
  generalize w1.heap.size = bb at *
  clear w1
  go_loopw [27] (fun i wr => ∃ k : Nat, k ≤ n ∧ i = .int .i64 k ∧ wr = W) (fun i _ => n - (intOf i).toNat)
  case atStart => exact ⟨0, by omega, rfl, rfl⟩
  case round =>
    obtain ⟨k, hk, rfl, rfl⟩ := hrel
    by_cases hlt : k < n
    · have ik : (k : Int) < (n : Int) := by omega
      obtain ⟨x, hx⟩ : ∃ x, K1[k]? = some x := ⟨_, List.getElem?_eq_getElem (by have := HK.out.1; omega)⟩
      obtain ⟨b1', o1, rfl, hb1⟩ := HS1.out.addr' hx
      have c1 : World.cell? _ ⟨b1', o1 + k, none⟩ = some (.string (bsL x)) := (HS1.out.some.2.1.cell hx).1
      have l1 := bsL_list x
      have hxo : okP x = true := List.all_eq_true.1 HK.out.2 x (List.mem_of_getElem? hx)
      clear hx
      by_cases hx2 : x = [46, 46]
      · have f1 : (x == [46, 46]) = true := by simpa using hx2
        clear hx2 hxo
        go_wp2_with fail
        go_roundw
        case rel => exact ⟨k + 1, by omega, by go_num, by first | rfl | trivial⟩
        case measure => simp [intOf]; omega
      · have f1 : (x == [46, 46]) = false := by simpa using hx2
        have HE := Lib.hid (show nmE x = 0 by
          have : nameP x = true := by simpa [okP, hx2] using hxo
          unfold nmE; rw [this]; rfl)
        clear hx2 hxo
        go_wp2_with (go_at_call 15; refine (HN.out _ _).mono ?_; rintro e w2 ⟨rfl, hw⟩; rw [hw, HE.out])
        go_roundw
        case rel => exact ⟨k + 1, by omega, by go_num, by first | rfl | trivial⟩
        case measure => simp [intOf]; omega
    · obtain rfl : k = n := by omega
      have ik : ¬ ((k : Int) < (k : Int)) := by omega
      rcases HC.out with hE | ⟨hE, rfl, rfl, hn0⟩
      · have e1 : (E != 0) = false := by simp [hE]
        have e2 : (E == 0) = true := by simp [hE]
        go_wp2_with (go_at_call 9; refine (HW.out _).mono ?_; rintro e w3 ⟨rfl, g3⟩; have HB3 := HB.gr0 g3; have q0 := HB3.cell 0; have q1 := HB3.cell 1; have q2 := HB3.cell 2; have HG3 := Lib.hid (HG.out.next0 g3); have HLW3 := Lib.hid (HLW.out.gr0 g3))
        clear q0 q1 q2 HB3 b0 b1 b2
        go_loopw [9, 10, 65] (fun t c i wr => ∃ k : Nat, k ≤ m7 ∧ t = .string (bsL (slashed (nmK L k))) ∧ c = .int .i64 (nmK L k).length ∧ i = .int .i64 k ∧ wr = w3) (fun _ _ i _ => m7 - (intOf i).toNat)
        case atStart => exact ⟨0, by omega, by rfl, by rfl, rfl, rfl⟩
        case round =>
          obtain ⟨k2, hk2, rfl, rfl, rfl, rfl⟩ := hrel
          obtain ⟨hkl, hkn⟩ := nmK_len L k2
          have hsl := slashed_len (K := nmK L k2) (fun p hp => (name_parts (hkn p hp)).2.2.2)
          by_cases hlt2 : k2 < m7
          · have ik2 : (k2 : Int) < (m7 : Int) := by omega
            obtain ⟨x, hx⟩ : ∃ x, L[k2]? = some x := ⟨_, List.getElem?_eq_getElem (by have := HNN.out; omega)⟩
            obtain ⟨b2', o2, rfl, hb2⟩ := HLW3.out.addr' hx
            have c2 : World.cell? _ ⟨b2', o2 + k2, none⟩ = some (.string (bsL x)) := (HLW3.out.some.2.1.cell hx).1
            have hs1 := nmK_succ hx
            by_cases hnx : nameP x = true
            · have HE := Lib.hid (show nmE x = 0 by unfold nmE; rw [hnx]; rfl)
              rw [if_pos hnx] at hs1
              have hx32 := (name_parts hnx).2.2.2
              have HS := Lib.hid hs1
              obtain ⟨Y, hY⟩ : ∃ Y, Y = slashed (nmK L k2) := ⟨_, rfl⟩
              obtain ⟨c, hc⟩ : ∃ c, c = (nmK L k2).length := ⟨_, rfl⟩
              have HT1 := Lib.hid (show slashed (nmK L (k2 + 1)) = Y ++ 47 :: x by rw [HS.out, slashed_snoc, hY])
              have HT2 := Lib.hid (show (nmK L (k2 + 1)).length = c + 1 by rw [HS.out, hc]; simp)
              rw [← hY] at hsl ⊢
              rw [← hc] at hkl hsl ⊢
              have p1 := pre47 x
              have p2 := bs_app Y (47 :: x)
              have z1 := bsL_size x
              have z2 := bsL_size Y
              have z3 : (⟨#[47]⟩ : ByteArray).size = 1 := rfl
              have z4 : (bsL (47 :: x)).size = x.length + 1 := bsL_size _
              have n1 : ¬ (9223372036854775807 < 1 + x.length) := by omega
              have n2 : ¬ (9223372036854775807 < Y.length + (x.length + 1)) := by omega
              clear hs1 hnx hY hc hx hkn
              go_wp2_with (go_at_call 15; refine (HN.out _ _).mono ?_; rintro e w5 ⟨rfl, hw⟩; rw [hw, HE.out])
              go_roundw
              case rel => exact ⟨k2 + 1, by omega, by rw [HT1.out], by rw [HT2.out]; go_num, by go_num, by first | rfl | trivial⟩
              case measure => simp [intOf]; omega
            · have HE := Lib.hid (show nmE x = 18 by unfold nmE; rw [if_neg hnx])
              rw [if_neg hnx] at hs1
              have HS := Lib.hid hs1
              clear hs1 hnx hx hkn
              go_wp2_with (go_at_call 15; refine (HN.out _ _).mono ?_; rintro e w5 ⟨rfl, hw⟩; rw [hw, HE.out])
              go_roundw
              case rel => exact ⟨k2 + 1, by omega, by rw [HS.out], by rw [HS.out], by go_num, by first | rfl | trivial⟩
              case measure => simp [intOf]; omega
          · obtain rfl : k2 = m7 := by omega
            have ik2 : ¬ ((k2 : Int) < (k2 : Int)) := by omega
            by_cases hK : nmK L k2 = []
            · have HE0 := Lib.hid (show errP (slashed (nmK L k2)) = 13 by rw [hK]; rfl)
              have hl0 : ((nmK L k2).length : Int) = 0 := by rw [hK]; rfl
              have HP2 := Lib.hid (fun W => HP.out (slashed (nmK L k2)) W)
              generalize slashed (nmK L k2) = Y at *
              rw [hl0]
              clear hK hl0 hkl hkn hsl
              go_wp2_with (go_at_call 7; (with_reducible refine (HP2.out _).mono ?_); rintro e w6 ⟨ao6, cap6, rfl, hs6, g6⟩; rw [HE0.out])
              go_ret
              exact ⟨rfl, ((HG3.out.next0 g6).alloc _).below0⟩
            · obtain ⟨f1, f2, f3, f4⟩ := names_back hkn hK (by omega)
              have hXT := slashed_text hK
              obtain ⟨Y, hY⟩ : ∃ Y, Y = slashed (nmK L k2) := ⟨_, rfl⟩
              obtain ⟨c, hc⟩ : ∃ c, c = (nmK L k2).length := ⟨_, rfl⟩
              have hc0 : (c == 0) = false := by
                rw [hc, beq_eq_false_iff_ne]; intro q; exact hK (List.length_eq_zero_iff.1 q)
              have hc1 : ((c : Int) == 0) = false := by
                rw [beq_len]; simpa using hc0
              rw [← hY] at f1 f2 f3 f4 hXT hsl ⊢
              have HP2 := Lib.hid (show ∀ W, Calls Try.prog 7 #[.string (bsL Y)] W fun e w' => ∃ ao cap, e = .returned (.tuple #[.agg #[.bool true, .slice ao c cap, .bool false], .int .i64 0]) ∧ SlS w' (.slice ao c cap) (nmK L k2) ∧ Gr [] W w' from fun W => by
                have q := parse_u Y W
                unfold ParU at q
                rw [f1, f2, f3, f4, ← hc] at q
                exact q)
              have HT := Lib.hid (show ∀ ao cap W, SlS W (.slice ao c cap) (nmK L k2) → Calls Try.prog 11 #[.agg #[.bool true, .slice ao c cap, .bool false]] W fun e w' => e = .returned (.string (bsL Y)) ∧ Gr [] W w' from fun ao cap W q1 => by
                have hj := joinS_len (nmK L k2)
                have hj2 : ((nmK L k2).map List.length).sum ≤ 256 := by rw [← f2]; exact (way_len Y).2
                have q := text_at true false (nmK L k2) ao cap W (by rw [← hc]; exact q1) (by omega) (by omega)
                rw [← hc, ← hXT] at q
                exact q)
              rw [← hc]
              have hlY := bsL_list Y
              have yy : (Y == Y) = true := by simp
              have cc : (c == c) = true := by simp
              clear f1 f2 f3 f4 hXT hsl hY hc hK hkl hkn
              go_wp2_with (first
                | (go_at_call 7; (with_reducible refine (HP2.out _).mono ?_); rintro e w6 ⟨ao6, cap6, rfl, hs6, g6⟩; have HS6 := Lib.hid (hs6.gr0 ((Gr.refl [] w6).alloc (Obj.cells #[.bool true, .slice ao6 c cap6, .bool false] 24))))
                | (go_at_call 11; refine (HT.out _ _ _ HS6.out).mono ?_; rintro e w7 ⟨rfl, g7⟩))
              go_ret
              exact ⟨rfl, (((HG3.out.next0 g6).alloc _).next0 g7).below0⟩
      · have e1 : (E != 0) = true := by simp [hE]
        have e2 : (E == 0) = false := by simp [hE]
        subst hn0
        go_wp2_with (go_at_call 9; refine (HW.out _).mono ?_; rintro e w3 ⟨rfl, g3⟩; have HB3 := HB.gr0 g3; have q0 := HB3.cell 0; have q1 := HB3.cell 1; have q2 := HB3.cell 2; have HG3 := Lib.hid (HG.out.next0 g3); have HLW3 := Lib.hid (HLW.out.gr0 g3))
        clear q0 q1 q2 HB3 b0 b1 b2
        go_loopw [9, 10, 65] (fun t c i wr => ∃ k : Nat, k ≤ m7 ∧ t = .string (bsL (slashed (nmK L k))) ∧ c = .int .i64 (nmK L k).length ∧ i = .int .i64 k ∧ wr = w3) (fun _ _ i _ => m7 - (intOf i).toNat)
        case atStart => exact ⟨0, by omega, by rfl, by rfl, rfl, rfl⟩
        case round =>
          obtain ⟨k2, hk2, rfl, rfl, rfl, rfl⟩ := hrel
          obtain ⟨hkl, hkn⟩ := nmK_len L k2
          have hsl := slashed_len (K := nmK L k2) (fun p hp => (name_parts (hkn p hp)).2.2.2)
          by_cases hlt2 : k2 < m7
          · have ik2 : (k2 : Int) < (m7 : Int) := by omega
            obtain ⟨x, hx⟩ : ∃ x, L[k2]? = some x := ⟨_, List.getElem?_eq_getElem (by have := HNN.out; omega)⟩
            obtain ⟨b2', o2, rfl, hb2⟩ := HLW3.out.addr' hx
            have c2 : World.cell? _ ⟨b2', o2 + k2, none⟩ = some (.string (bsL x)) := (HLW3.out.some.2.1.cell hx).1
            have hs1 := nmK_succ hx
            by_cases hnx : nameP x = true
            · have HE := Lib.hid (show nmE x = 0 by unfold nmE; rw [hnx]; rfl)
              rw [if_pos hnx] at hs1
              have hx32 := (name_parts hnx).2.2.2
              have HS := Lib.hid hs1
              obtain ⟨Y, hY⟩ : ∃ Y, Y = slashed (nmK L k2) := ⟨_, rfl⟩
              obtain ⟨c, hc⟩ : ∃ c, c = (nmK L k2).length := ⟨_, rfl⟩
              have HT1 := Lib.hid (show slashed (nmK L (k2 + 1)) = Y ++ 47 :: x by rw [HS.out, slashed_snoc, hY])
              have HT2 := Lib.hid (show (nmK L (k2 + 1)).length = c + 1 by rw [HS.out, hc]; simp)
              rw [← hY] at hsl ⊢
              rw [← hc] at hkl hsl ⊢
              have p1 := pre47 x
              have p2 := bs_app Y (47 :: x)
              have z1 := bsL_size x
              have z2 := bsL_size Y
              have z3 : (⟨#[47]⟩ : ByteArray).size = 1 := rfl
              have z4 : (bsL (47 :: x)).size = x.length + 1 := bsL_size _
              have n1 : ¬ (9223372036854775807 < 1 + x.length) := by omega
              have n2 : ¬ (9223372036854775807 < Y.length + (x.length + 1)) := by omega
              clear hs1 hnx hY hc hx hkn
              go_wp2_with (go_at_call 15; refine (HN.out _ _).mono ?_; rintro e w5 ⟨rfl, hw⟩; rw [hw, HE.out])
              go_roundw
              case rel => exact ⟨k2 + 1, by omega, by rw [HT1.out], by rw [HT2.out]; go_num, by go_num, by first | rfl | trivial⟩
              case measure => simp [intOf]; omega
            · have HE := Lib.hid (show nmE x = 18 by unfold nmE; rw [if_neg hnx])
              rw [if_neg hnx] at hs1
              have HS := Lib.hid hs1
              clear hs1 hnx hx hkn
              go_wp2_with (go_at_call 15; refine (HN.out _ _).mono ?_; rintro e w5 ⟨rfl, hw⟩; rw [hw, HE.out])
              go_roundw
              case rel => exact ⟨k2 + 1, by omega, by rw [HS.out], by rw [HS.out], by go_num, by first | rfl | trivial⟩
              case measure => simp [intOf]; omega
          · obtain rfl : k2 = m7 := by omega
            have ik2 : ¬ ((k2 : Int) < (k2 : Int)) := by omega
            by_cases hK : nmK L k2 = []
            · have HE0 := Lib.hid (show errP (slashed (nmK L k2)) = 13 by rw [hK]; rfl)
              have hl0 : ((nmK L k2).length : Int) = 0 := by rw [hK]; rfl
              have HP2 := Lib.hid (fun W => HP.out (slashed (nmK L k2)) W)
              generalize slashed (nmK L k2) = Y at *
              rw [hl0]
              clear hK hl0 hkl hkn hsl
              go_wp2_with (go_at_call 7; (with_reducible refine (HP2.out _).mono ?_); rintro e w6 ⟨ao6, cap6, rfl, hs6, g6⟩; rw [HE0.out])
              go_ret
              exact ⟨rfl, ((HG3.out.next0 g6).alloc _).below0⟩
            · obtain ⟨f1, f2, f3, f4⟩ := names_back hkn hK (by omega)
              have hXT := slashed_text hK
              obtain ⟨Y, hY⟩ : ∃ Y, Y = slashed (nmK L k2) := ⟨_, rfl⟩
              obtain ⟨c, hc⟩ : ∃ c, c = (nmK L k2).length := ⟨_, rfl⟩
              have hc0 : (c == 0) = false := by
                rw [hc, beq_eq_false_iff_ne]; intro q; exact hK (List.length_eq_zero_iff.1 q)
              have hc1 : ((c : Int) == 0) = false := by
                rw [beq_len]; simpa using hc0
              rw [← hY] at f1 f2 f3 f4 hXT hsl ⊢
              have HP2 := Lib.hid (show ∀ W, Calls Try.prog 7 #[.string (bsL Y)] W fun e w' => ∃ ao cap, e = .returned (.tuple #[.agg #[.bool true, .slice ao c cap, .bool false], .int .i64 0]) ∧ SlS w' (.slice ao c cap) (nmK L k2) ∧ Gr [] W w' from fun W => by
                have q := parse_u Y W
                unfold ParU at q
                rw [f1, f2, f3, f4, ← hc] at q
                exact q)
              have HT := Lib.hid (show ∀ ao cap W, SlS W (.slice ao c cap) (nmK L k2) → Calls Try.prog 11 #[.agg #[.bool true, .slice ao c cap, .bool false]] W fun e w' => e = .returned (.string (bsL Y)) ∧ Gr [] W w' from fun ao cap W q1 => by
                have hj := joinS_len (nmK L k2)
                have hj2 : ((nmK L k2).map List.length).sum ≤ 256 := by rw [← f2]; exact (way_len Y).2
                have q := text_at true false (nmK L k2) ao cap W (by rw [← hc]; exact q1) (by omega) (by omega)
                rw [← hc, ← hXT] at q
                exact q)
              rw [← hc]
              have hlY := bsL_list Y
              have yy : (Y == Y) = true := by simp
              have cc : (c == c) = true := by simp
              clear f1 f2 f3 f4 hXT hsl hY hc hK hkl hkn
              go_wp2_with (first
                | (go_at_call 7; (with_reducible refine (HP2.out _).mono ?_); rintro e w6 ⟨ao6, cap6, rfl, hs6, g6⟩; have HS6 := Lib.hid (hs6.gr0 ((Gr.refl [] w6).alloc (Obj.cells #[.bool true, .slice ao6 c cap6, .bool false] 24))))
                | (go_at_call 11; refine (HT.out _ _ _ HS6.out).mono ?_; rintro e w7 ⟨rfl, g7⟩))
              go_ret
              exact ⟨rfl, (((HG3.out.next0 g6).alloc _).next0 g7).below0⟩
theorem walk_PathNames {w : World} (S : ByteArray) (v : Value) (L : List (List UInt8)) (hs : S.size ≤ maxLen) (_ : S.size ≤ reachBytes) (h : SlS w v L) : Calls Try.prog 6 #[.string S, v] w fun e w' => e = .returned (.bool true) ∧ Below w.heap.size w w' := by
  unfold maxLen at hs
  obtain ⟨m, hm⟩ : ∃ m : Nat, m = min S.size 300 := ⟨_, rfl⟩
  obtain ⟨T, hT, _⟩ := cut_front S 300 m hm
  obtain ⟨ao, cap, rfl, hrest⟩ := h
  refine names_any S T L (wayL T) ao cap (wayA T) (wayD T) (errP T) (wayL T).length m hm hT ⟨ao, cap, rfl, hrest⟩ hs (parse_u T) rfl (by have := way_len T; omega) (way_ok T) ?_
  by_cases hE : errP T = 0
  · exact .inl hE
  · exact .inr ⟨hE, by simp [wayA, hE], by simp [wayD, hE], by simp [wayL, hE]⟩

end Go.Proofs.Ytnmenihahgggmaa
