/-
  Layer 15: the program's Blocks, Held, spot, Map.
-/
import Derived.Test.YtpkhfdcokcchdaaExA
namespace Go.Proofs.Ytpkhfdcokcchdaa
open Go.RowKit

/-- How many blocks there are, but for holes. -/
def heldZ : List (Int × Int) → Int
  | [] => 0
  | e :: r => (if e.1 = -1 then 0 else e.2) + heldZ r
theorem heldZ_append (A B : List (Int × Int)) : heldZ (A ++ B) = heldZ A + heldZ B := by
  induction A with
  | nil => simp [heldZ]
  | cons e r ih => simp only [List.cons_append, heldZ, ih]; omega
theorem heldZ_take {l : List (Int × Int)} {k : Nat} {e : Int × Int} (h : l[k]? = some e) : heldZ (l.take (k + 1)) = heldZ (l.take k) + if e.1 = -1 then 0 else e.2 := by
  obtain ⟨a, b⟩ := List.getElem?_eq_some_iff.1 h
  rw [List.take_succ_eq_append_getElem a, b, heldZ_append]
  simp [heldZ]
/-- Each run is of few blocks. -/
def smallP (l : List (Int × Int)) : Prop := l.length ≤ 70 ∧ ∀ e ∈ l, -1 ≤ e.1 ∧ e.1 ≤ 1000000 ∧ 1 ≤ e.2 ∧ e.2 ≤ 65536
theorem Right15.small {l : List (Int × Int)} (h : Right15 l) : smallP l := ⟨by have := h.1; omega, fun e he => by have := (okK_all h.2.1).1 e he; omega⟩
theorem small_sum {l : List (Int × Int)} (h : ∀ e ∈ l, 1 ≤ e.2 ∧ e.2 ≤ 65536) (k : Nat) : 0 ≤ sumZ (l.take k) ∧ sumZ (l.take k) ≤ 65536 * k ∧ 0 ≤ heldZ (l.take k) ∧ heldZ (l.take k) ≤ 65536 * k := by
  induction k with
  | zero => simp [sumZ, heldZ]
  | succ k ih =>
    have e3 : (65536 : Int) * ((k + 1 : Nat) : Int) = 65536 * (k : Int) + 65536 := by push_cast; omega
    by_cases hk : k < l.length
    · have he := List.getElem?_eq_getElem hk
      have hm := h _ (List.mem_of_getElem? he)
      rw [sumZ_take he, heldZ_take he, e3]
      split <;> omega
    · rw [List.take_of_length_le (by omega)] at ih ⊢
      omega

set_option maxHeartbeats 1000000 in
theorem eblocks_any (l : List (Int × Int)) (L : Nat) (s : Int) (ao : Option Addr) (cap : Nat) (w : World) (h : Rd2 w ao l) (hL : L = l.length) (hs : smallP l) (hS : s = sumZ l) :
    Calls Try.prog 46 #[.slice ao L cap] w fun e w' => e = .returned (.int .i64 s) ∧ Gr [] w w' := by
  subst hS
  have HR := Lib.hid h
  have HL := Lib.hid hL
  have HG := Lib.hid (Gr.refl [] w)
  have HS := Lib.hid hs
  have hL70 : L ≤ 70 := by have := hs.1; omega
  clear h hL hs
  go_enter Try.func46, Try.ntmps46
  go_wp2_with fail
  go_loopw [3, 8] (fun s i wr => ∃ k : Nat, k ≤ L ∧ i = .int .i64 k ∧ s = .int .i64 (sumZ (l.take k)) ∧ Gr [] w wr) (fun _ i _ => L - (intOf i).toNat)
  case atStart => exact ⟨0, by omega, rfl, rfl, HG.out⟩
  case round =>
    clear HG
    obtain ⟨k, hk, rfl, rfl, G⟩ := hrel
    have hsb := small_sum (fun e he => ⟨(HS.out.2 e he).2.2.1, (HS.out.2 e he).2.2.2⟩) k
    by_cases hkL : k < L
    · have hkL2 : (k : Int) < (L : Int) := by omega
      obtain ⟨⟨e1, e2⟩, he⟩ : ∃ e, l[k]? = some e := ⟨_, List.getElem?_eq_getElem (by have := HL.out; omega)⟩
      obtain ⟨b, o, hao, hb, x0, x1⟩ := HR.out k _ he
      have y0 : wr.cell? ⟨b, o + k * 2, none⟩ = some (.int .i64 e1) := (G.cell0 hb).trans x0
      have y1 : wr.cell? ⟨b, o + k * 2 + 1, none⟩ = some (.int .i64 e2) := (G.cell0 hb).trans x1
      have hm := HS.out.2 _ (List.mem_of_getElem? he)
      have HST := Lib.hid (sumZ_take he)
      have HGA := Lib.hid (G.alloc (Obj.cells #[.int .i64 e1, .int .i64 e2] 35))
      have z1 := (Holds.new wr #[.int .i64 e1, .int .i64 e2] 35).cell 1
      obtain ⟨s1, hs1⟩ : ∃ s1, s1 = sumZ (l.take k) := ⟨_, rfl⟩
      rw [← hs1] at hsb HST ⊢
      have hw : IntKind.i64.wrap (s1 + e2) = s1 + e2 := IntWalk.i64_in _ (by simp only at hm; omega)
      subst hao
      clear x0 x1 G he hs1 hsb hm
      go_wp2_with fail
      go_roundw
      case rel => exact ⟨k + 1, by omega, by go_num, by rw [HST.out], HGA.out⟩
      case measure => simp [intOf]; omega
    · obtain rfl : k = L := by omega
      have HGL := Lib.hid G
      have ht : l.take k = l := by rw [HL.out]; exact List.take_length
      rw [ht] at hsb ⊢
      clear hsb ht G
      go_wp2_with fail
      go_ret
      exact ⟨rfl, HGL.out⟩
set_option maxHeartbeats 1000000 in
theorem eheld_any (l : List (Int × Int)) (L : Nat) (s : Int) (ao : Option Addr) (cap : Nat) (w : World) (h : Rd2 w ao l) (hL : L = l.length) (hs : smallP l) (hS : s = heldZ l) :
    Calls Try.prog 50 #[.slice ao L cap] w fun e w' => e = .returned (.int .i64 s) ∧ Gr [] w w' := by
  subst hS
  have HR := Lib.hid h
  have HL := Lib.hid hL
  have HG := Lib.hid (Gr.refl [] w)
  have HS := Lib.hid hs
  have hL70 : L ≤ 70 := by have := hs.1; omega
  clear h hL hs
  go_enter Try.func50, Try.ntmps50
  go_wp2_with fail
  go_loopw [3, 8] (fun s i wr => ∃ k : Nat, k ≤ L ∧ i = .int .i64 k ∧ s = .int .i64 (heldZ (l.take k)) ∧ Gr [] w wr) (fun _ i _ => L - (intOf i).toNat)
  case atStart => exact ⟨0, by omega, rfl, rfl, HG.out⟩
  case round =>
    clear HG
    obtain ⟨k, hk, rfl, rfl, G⟩ := hrel
    have hsb := small_sum (fun e he => ⟨(HS.out.2 e he).2.2.1, (HS.out.2 e he).2.2.2⟩) k
    by_cases hkL : k < L
    · have hkL2 : (k : Int) < (L : Int) := by omega
      obtain ⟨⟨e1, e2⟩, he⟩ : ∃ e, l[k]? = some e := ⟨_, List.getElem?_eq_getElem (by have := HL.out; omega)⟩
      obtain ⟨b, o, hao, hb, x0, x1⟩ := HR.out k _ he
      have y0 : wr.cell? ⟨b, o + k * 2, none⟩ = some (.int .i64 e1) := (G.cell0 hb).trans x0
      have y1 : wr.cell? ⟨b, o + k * 2 + 1, none⟩ = some (.int .i64 e2) := (G.cell0 hb).trans x1
      have hm := HS.out.2 _ (List.mem_of_getElem? he)
      have hst := heldZ_take he
      have HGA := Lib.hid (G.alloc (Obj.cells #[.int .i64 e1, .int .i64 e2] 35))
      have z0 := (Holds.new wr #[.int .i64 e1, .int .i64 e2] 35).cell 0
      have z1 := (Holds.new wr #[.int .i64 e1, .int .i64 e2] 35).cell 1
      obtain ⟨s1, hs1⟩ : ∃ s1, s1 = heldZ (l.take k) := ⟨_, rfl⟩
      rw [← hs1] at hsb hst ⊢
      have hw : IntKind.i64.wrap (s1 + e2) = s1 + e2 := IntWalk.i64_in _ (by simp only at hm; omega)
      subst hao
      clear x0 x1 G he hs1 hsb hm
      by_cases hh : e1 = -1
      · have d1 : (e1 != -1) = false := by simp [hh]
        rw [if_pos hh, Int.add_zero] at hst
        have HST := Lib.hid hst
        clear hh hst
        go_wp2_with fail
        go_roundw
        case rel => exact ⟨k + 1, by omega, by go_num, by rw [HST.out], HGA.out⟩
        case measure => simp [intOf]; omega
      · have d1 : (e1 != -1) = true := by simp [hh]
        rw [if_neg hh] at hst
        have HST := Lib.hid hst
        clear hh hst
        go_wp2_with fail
        go_roundw
        case rel => exact ⟨k + 1, by omega, by go_num, by rw [HST.out], HGA.out⟩
        case measure => simp [intOf]; omega
    · obtain rfl : k = L := by omega
      have HGL := Lib.hid G
      have ht : l.take k = l := by rw [HL.out]; exact List.take_length
      rw [ht] at hsb ⊢
      clear hsb ht G
      go_wp2_with fail
      go_ret
      exact ⟨rfl, HGL.out⟩
def spotP (e : Int × Int) (i : Int) : Int := if e.1 = -1 then -1 else e.1 + i
theorem espot_any (e1 e2 i : Int) (w : World) (h : IntKind.i64.wrap (e1 + i) = e1 + i) :
    Calls Try.prog 98 #[.agg #[.int .i64 e1, .int .i64 e2], .int .i64 i] w fun e w' => e = .returned (.int .i64 (spotP (e1, e2) i)) ∧ Gr [] w w' := by
  have HG := Lib.hid ((Gr.refl [] w).alloc (Obj.cells #[.int .i64 e1, .int .i64 e2] 35))
  by_cases hh : e1 = -1
  · have d1 : (e1 == -1) = true := by simp [hh]
    have HS := Lib.hid (show spotP (e1, e2) i = -1 from if_pos hh)
    clear hh
    go_enter Try.func98, Try.ntmps98
    go_wp2_with fail
    go_ret
    exact ⟨by rw [HS.out]; rfl, HG.out⟩
  · have d1 : (e1 == -1) = false := by simp [hh]
    have HS := Lib.hid (show spotP (e1, e2) i = e1 + i from if_neg hh)
    clear hh
    go_enter Try.func98, Try.ntmps98
    go_wp2_with fail
    go_ret
    exact ⟨by rw [HS.out]; rfl, HG.out⟩
theorem blkR_get (e : Int × Int) (j : Nat) (h : (j : Int) < e.2) : (blkR e)[j]? = some (spotP e j) := by
  unfold blkR spotP
  rw [List.getElem?_map, List.getElem?_range (by omega)]
  rfl
theorem blk_at {l : List (Int × Int)} {k : Nat} {e : Int × Int} (h : l[k]? = some e) : blk (l.drop k) = blkR e ++ blk (l.drop (k + 1)) := by
  obtain ⟨a, b⟩ := List.getElem?_eq_some_iff.1 h
  rw [List.drop_eq_getElem_cons a, b, blk_cons]

set_option maxHeartbeats 1000000 in
theorem emap_neg (l : List (Int × Int)) (L : Nat) (i : Int) (ao : Option Addr) (cap : Nat) (w : World) (hi : i < 0) :
    Calls Try.prog 48 #[.slice ao L cap, .int .i64 i] w fun e w' => e = .returned (.tuple #[.int .i64 0, .bool false]) ∧ Gr [] w w' := by
  have HG := Lib.hid (Gr.refl [] w)
  have d1 : decide (i < 0) = true := decide_eq_true hi
  clear hi
  go_enter Try.func48, Try.ntmps48
  go_wp2_with fail
  exact bodyPost_ret (v := .tuple #[.int .i64 0, .bool false]) (by simp [results, Try.results48, go_sem]) rfl ⟨rfl, HG.out⟩
set_option maxHeartbeats 2000000 in
theorem emap_any (l : List (Int × Int)) (L i : Nat) (ao : Option Addr) (cap : Nat) (w : World) (h : Rd2 w ao l) (hL : L = l.length) (hs : smallP l) (hi : i < 9223372036854775808) :
    Calls Try.prog 48 #[.slice ao L cap, .int .i64 i] w fun e w' => Gr [] w w' ∧ ((∃ x, (blk l)[i]? = some x ∧ e = .returned (.tuple #[.int .i64 x, .bool true])) ∨ (blk l)[i]? = none ∧ e = .returned (.tuple #[.int .i64 0, .bool false])) := by
  have HR := Lib.hid h
  have HL := Lib.hid hL
  have HG := Lib.hid (Gr.refl [] w)
  have HS := Lib.hid hs
  have hL70 : L ≤ 70 := by have := hs.1; omega
  have d1 : decide ((i : Int) < 0) = false := decide_eq_false (by omega)
  clear h hL hs
  go_enter Try.func48, Try.ntmps48
  go_wp2_with fail
  clear d1
  go_loopw [1, 12] (fun iv q wr => ∃ k j : Nat, k ≤ L ∧ q = .int .i64 k ∧ iv = .int .i64 j ∧ j ≤ i ∧ Hid ((blk l)[i]? = (blk (l.drop k))[j]?) ∧ Gr [] w wr) (fun _ q _ => L - (intOf q).toNat)
  case atStart => exact ⟨0, i, by omega, rfl, rfl, Nat.le_refl _, Lib.hid rfl, HG.out⟩
  case round =>
    clear HG
    obtain ⟨k, j, hk, rfl, rfl, hji, HB, G⟩ := hrel
    by_cases hkL : k < L
    · have hkL2 : (k : Int) < (L : Int) := by omega
      obtain ⟨⟨e1, e2⟩, he⟩ : ∃ e, l[k]? = some e := ⟨_, List.getElem?_eq_getElem (by have := HL.out; omega)⟩
      obtain ⟨b, o, hao, hb, x0, x1⟩ := HR.out k _ he
      have y0 : wr.cell? ⟨b, o + k * 2, none⟩ = some (.int .i64 e1) := (G.cell0 hb).trans x0
      have y1 : wr.cell? ⟨b, o + k * 2 + 1, none⟩ = some (.int .i64 e2) := (G.cell0 hb).trans x1
      have hm := HS.out.2 _ (List.mem_of_getElem? he)
      simp only at hm
      have HAT := Lib.hid (blk_at he)
      have HGA := Lib.hid (G.alloc (Obj.cells #[.int .i64 e1, .int .i64 e2] 35))
      have z0 := (Holds.new wr #[.int .i64 e1, .int .i64 e2] 35).cell 0
      have z1 := (Holds.new wr #[.int .i64 e1, .int .i64 e2] 35).cell 1
      subst hao
      clear x0 x1 G he
      by_cases hje : (j : Int) < e2
      · have d1 : decide ((j : Int) < e2) = true := decide_eq_true hje
        have HFD := Lib.hid (show (blk l)[i]? = some (spotP (e1, e2) j) by
          rw [HB.out, HAT.out, List.getElem?_append_left (by rw [blkR_len]; simp only; omega), blkR_get _ _ (by simpa using hje)])
        have HW := Lib.hid (IntWalk.i64_in (e1 + (j : Int)) (by omega))
        clear hje hm
        go_wp2_with fail
        refine (espot_any e1 e2 j _ HW.out).mono ?_
        rintro e w5 ⟨rfl, g5⟩
        have H5 := Lib.hid (HGA.out.next0 g5)
        clear g5
        go_wp2_with fail
        exact bodyPost_ret (v := .tuple #[.int .i64 (spotP (e1, e2) j), .bool true]) (by simp [results, Try.results48, go_sem]) rfl ⟨H5.out, .inl ⟨_, HFD.out, rfl⟩⟩
      · have d1 : decide ((j : Int) < e2) = false := decide_eq_false hje
        obtain ⟨j2, hj2⟩ : ∃ j2 : Nat, (j : Int) - e2 = (j2 : Int) := ⟨((j : Int) - e2).toNat, by omega⟩
        have hj3 : IntKind.i64.wrap ((j2 : Int)) = (j2 : Int) := IntWalk.i64_in _ (by omega)
        have hj4 : j2 ≤ i := by omega
        have HFD := Lib.hid (show (blk l)[i]? = (blk (l.drop (k + 1)))[j2]? by
          rw [HB.out, HAT.out, List.getElem?_append_right (by rw [blkR_len]; simp only; omega), blkR_len]
          congr 1
          simp only
          omega)
        clear hje hm
        go_wp2_with fail
        go_roundw
        case rel => exact ⟨k + 1, j2, by omega, by go_num, rfl, hj4, HFD, HGA.out⟩
        case measure => simp [intOf]; omega
    · obtain rfl : k = L := by omega
      have HGL := Lib.hid G
      have HNO := Lib.hid (show (blk l)[i]? = none by rw [HB.out, HL.out, List.drop_length]; simp [blk])
      clear G
      go_wp2_with fail
      exact bodyPost_ret (v := .tuple #[.int .i64 0, .bool false]) (by simp [results, Try.results48, go_sem]) rfl ⟨HGL.out, .inr ⟨HNO.out, rfl⟩⟩

end Go.Proofs.Ytpkhfdcokcchdaa
