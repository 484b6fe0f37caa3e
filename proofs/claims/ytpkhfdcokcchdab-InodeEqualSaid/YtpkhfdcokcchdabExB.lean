/-
  Layer 15: the program's Blocks, Held, spot, Map.
-/
import Derived.Test.YtpkhfdcokcchdabExA
namespace Go.Proofs.Ytpkhfdcokcchdab
open Go.RowKit

/-- How many blocks there are, but for holes. -/
def heldZ : List (Int × Int) → Int
  | [] => 0
  | e :: r => (if e.1 = -1 then 0 else e.2) + heldZ r
theorem heldZ_append (A B : List (Int × Int)) : heldZ (A ++ B) = heldZ A + heldZ B := by
  induction A with
  | nil => simp [heldZ]
  | cons e r ih => simp only [List.cons_append, heldZ, ih]; omega
theorem heldZ_take {l : List (Int × Int)} {k : Nat} {e : Int × Int} (h : l[k]? = some e) : heldZ (l.take (k + 1)) = heldZ (l.take k) + if e.1 = -1 then 0 else e.2 := by
  obtain ⟨a, b⟩ := List.getElem?_eq_some_iff.1 h
  rw [List.take_succ_eq_append_getElem a, b, heldZ_append]
  simp [heldZ]
/-- Each run is of few blocks. -/
def smallP (l : List (Int × Int)) : Prop := l.length ≤ 70 ∧ ∀ e ∈ l, -1 ≤ e.1 ∧ e.1 ≤ 1000000 ∧ 1 ≤ e.2 ∧ e.2 ≤ 65536
theorem Right15.small {l : List (Int × Int)} (h : Right15 l) : smallP l := ⟨by have := h.1; omega, fun e he => by have := (okK_all h.2.1).1 e he; omega⟩
theorem small_sum {l : List (Int × Int)} (h : ∀ e ∈ l, 1 ≤ e.2 ∧ e.2 ≤ 65536) (k : Nat) : 0 ≤ sumZ (l.take k) ∧ sumZ (l.take k) ≤ 65536 * k ∧ 0 ≤ heldZ (l.take k) ∧ heldZ (l.take k) ≤ 65536 * k := by
  induction k with
  | zero => simp [sumZ, heldZ]
  | succ k ih =>
    have e3 : (65536 : Int) * ((k + 1 : Nat) : Int) = 65536 * (k : Int) + 65536 := by push_cast; omega
    by_cases hk : k < l.length
    · have he := List.getElem?_eq_getElem hk
      have hm := h _ (List.mem_of_getElem? he)
      rw [sumZ_take he, heldZ_take he, e3]
      split <;> omega
    · rw [List.take_of_length_le (by omega)] at ih ⊢
      omega

set_option maxHeartbeats 1000000 in
theorem eblocks_any (l : List (Int × Int)) (L : Nat) (s : Int) (ao : Option Addr) (cap : Nat) (w : World) (h : Rd2 w ao l) (hL : L = l.length) (hs : smallP l) (hS : s = sumZ l) :
    Calls Try.prog 34 #[.slice ao L cap] w fun e w' => e = .returned (.int .i64 s) ∧ Gr [] w w' := by
  subst hS
  have HR := Lib.hid h
  have HL := Lib.hid hL
  have HG := Lib.hid (Gr.refl [] w)
  have HS := Lib.hid hs
  have hL70 : L ≤ 70 := by have := hs.1; omega
  clear h hL hs
  go_enter Try.func34, Try.ntmps34
  go_wp2_with fail
  go_loopw [3, 8] (fun s i wr => ∃ k : Nat, k ≤ L ∧ i = .int .i64 k ∧ s = .int .i64 (sumZ (l.take k)) ∧ Gr [] w wr) (fun _ i _ => L - (intOf i).toNat)
  case atStart => exact ⟨0, by omega, rfl, rfl, HG.out⟩
  case round =>
    clear HG
    obtain ⟨k, hk, rfl, rfl, G⟩ := hrel
    have hsb := small_sum (fun e he => ⟨(HS.out.2 e he).2.2.1, (HS.out.2 e he).2.2.2⟩) k
    by_cases hkL : k < L
    · have hkL2 : (k : Int) < (L : Int) := by omega
      obtain ⟨⟨e1, e2⟩, he⟩ : ∃ e, l[k]? = some e := ⟨_, List.getElem?_eq_getElem (by have := HL.out; omega)⟩
      obtain ⟨b, o, hao, hb, x0, x1⟩ := HR.out k _ he
      have y0 : wr.cell? ⟨b, o + k * 2, none⟩ = some (.int .i64 e1) := (G.cell0 hb).trans x0
      have y1 : wr.cell? ⟨b, o + k * 2 + 1, none⟩ = some (.int .i64 e2) := (G.cell0 hb).trans x1
      have hm := HS.out.2 _ (List.mem_of_getElem? he)
      have HST := Lib.hid (sumZ_take he)
      have HGA := Lib.hid (G.alloc (Obj.cells #[.int .i64 e1, .int .i64 e2] 72))
      have z1 := (Holds.new wr #[.int .i64 e1, .int .i64 e2] 72).cell 1
      obtain ⟨s1, hs1⟩ : ∃ s1, s1 = sumZ (l.take k) := ⟨_, rfl⟩
      rw [← hs1] at hsb HST ⊢
      have hw : IntKind.i64.wrap (s1 + e2) = s1 + e2 := IntWalk.i64_in _ (by simp only at hm; omega)
      subst hao
      clear x0 x1 G he hs1 hsb hm
      go_wp2_with fail
      go_roundw
      case rel => exact ⟨k + 1, by omega, by go_num, by rw [HST.out], HGA.out⟩
      case measure => simp [intOf]; omega
    · obtain rfl : k = L := by omega
      have HGL := Lib.hid G
      have ht : l.take k = l := by rw [HL.out]; exact List.take_length
      rw [ht] at hsb ⊢
      clear hsb ht G
      go_wp2_with fail
      go_ret
      exact ⟨rfl, HGL.out⟩
def spotP (e : Int × Int) (i : Int) : Int := if e.1 = -1 then -1 else e.1 + i
theorem blkR_get (e : Int × Int) (j : Nat) (h : (j : Int) < e.2) : (blkR e)[j]? = some (spotP e j) := by
  unfold blkR spotP
  rw [List.getElem?_map, List.getElem?_range (by omega)]
  rfl
theorem blk_at {l : List (Int × Int)} {k : Nat} {e : Int × Int} (h : l[k]? = some e) : blk (l.drop k) = blkR e ++ blk (l.drop (k + 1)) := by
  obtain ⟨a, b⟩ := List.getElem?_eq_some_iff.1 h
  rw [List.drop_eq_getElem_cons a, b, blk_cons]

end Go.Proofs.Ytpkhfdcokcchdab
