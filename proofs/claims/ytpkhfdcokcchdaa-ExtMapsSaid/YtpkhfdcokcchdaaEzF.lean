/-
  Layer 15: how many of a list's blocks there are; Map of any number.
-/
import Derived.Test.YtpkhfdcokcchdaaMgB
namespace Go.Proofs.Ytpkhfdcokcchdaa
open Go.RowKit

def posB : List Int → Int
  | [] => 0
  | x :: r => (if 0 ≤ x then 1 else 0) + posB r
theorem posB_append (A B : List Int) : posB (A ++ B) = posB A + posB B := by
  induction A with
  | nil => simp [posB]
  | cons x r ih => simp only [List.cons_append, posB, ih]; omega
theorem posB_take {b : List Int} {k : Nat} {x : Int} (h : b[k]? = some x) : posB (b.take (k + 1)) = posB (b.take k) + (if 0 ≤ x then 1 else 0) := by
  obtain ⟨a, c⟩ := List.getElem?_eq_some_iff.1 h
  rw [List.take_succ_eq_append_getElem a, c, posB_append]
  simp [posB]
theorem posB_bd (b : List Int) : 0 ≤ posB b ∧ posB b ≤ b.length := by
  induction b with
  | nil => simp [posB]
  | cons x r ih =>
    simp only [posB, List.length_cons]
    split <;> omega
theorem posB_run (a : Int) (n : Nat) (ha : -1 ≤ a) : posB (blkR (a, (n : Int))) = if a = -1 then 0 else (n : Int) := by
  induction n with
  | zero => simp [blkR, posB]
  | succ n ih =>
    rw [show ((n + 1 : Nat) : Int) = (n : Int) + 1 by omega, blkR_up, posB_append, ih]
    simp only [posB]
    by_cases q : a = -1
    · simp [q]
    · rw [if_neg q, if_neg q, if_neg q, if_pos (by omega)]; omega
theorem posB_blk {l : List (Int × Int)} (h : ∀ e ∈ l, -1 ≤ e.1 ∧ 1 ≤ e.2) : posB (blk l) = heldZ l := by
  induction l with
  | nil => rfl
  | cons e r ih =>
    have h1 := h e (by simp)
    obtain ⟨a, n⟩ := e
    simp only at h1
    obtain ⟨k, rfl⟩ : ∃ k : Nat, n = (k : Int) := ⟨n.toNat, by omega⟩
    rw [blk_cons, posB_append, posB_run a k h1.1, ih (fun x hx => h x (by simp [hx]))]
    rfl

theorem emap_nega (L : Nat) (i : Int) (ao : Option Addr) (cap : Nat) (w : World) (hi : i < 0) :
    Calls Try.prog 48 #[.slice ao L cap, .int .i64 i] w fun e w' => e = .returned (.tuple #[.int .i64 0, .bool false]) ∧ Gr [] w w' := by
  have HG := Lib.hid (Gr.refl [] w)
  go_enter Try.func48, Try.ntmps48
  go_wp2_with fail
  exact bodyPost_ret (v := .tuple #[.int .i64 0, .bool false]) (by simp [results, Try.results48, go_sem]) rfl ⟨rfl, HG.out⟩
/-- Where a block is: any number. -/
def mapO (b : List Int) (i : Int) : Int × Bool := if 0 ≤ i then (match b[i.toNat]? with | some x => (x, true) | none => (0, false)) else (0, false)
theorem emap_O (l : List (Int × Int)) (L : Nat) (i : Int) (ao : Option Addr) (cap : Nat) (w : World) (h : Rd2 w ao l) (hL : L = l.length) (hs : smallP l) (hi : i ≤ 9223372036854775807) :
    Calls Try.prog 48 #[.slice ao L cap, .int .i64 i] w fun e w' => e = .returned (.tuple #[.int .i64 (mapO (blk l) i).1, .bool (mapO (blk l) i).2]) ∧ Gr [] w w' := by
  by_cases h0 : 0 ≤ i
  · obtain ⟨k, rfl⟩ := Int.eq_ofNat_of_zero_le h0
    refine (emap_any l L k ao cap w h hL hs (by omega)).mono ?_
    rintro e w' ⟨g, ⟨x, hx, rfl⟩ | ⟨hx, rfl⟩⟩
    · unfold mapO; rw [if_pos h0, Int.toNat_natCast, hx]; exact ⟨rfl, g⟩
    · unfold mapO; rw [if_pos h0, Int.toNat_natCast, hx]; exact ⟨rfl, g⟩
  · refine (emap_nega L i ao cap w (by omega)).mono ?_
    rintro e w' ⟨rfl, g⟩
    unfold mapO; rw [if_neg h0]; exact ⟨rfl, g⟩
theorem mapO_some {b : List Int} {k : Nat} {x : Int} (h : b[k]? = some x) : mapO b (k : Int) = (x, true) := by
  unfold mapO; rw [if_pos (by omega), Int.toNat_natCast, h]
theorem mapO_none {b : List Int} {i : Int} (h : i < 0 ∨ (b.length : Int) ≤ i) : mapO b i = (0, false) := by
  unfold mapO
  by_cases h0 : 0 ≤ i
  · rw [if_pos h0, List.getElem?_eq_none (by omega)]
  · rw [if_neg h0]
theorem map_out (l : List (Int × Int)) (L : Nat) (i : Int) (ao : Option Addr) (cap : Nat) (w : World) (h : Rd2 w ao l) (hL : L = l.length) (hs : smallP l) (hi : i ≤ 9223372036854775807) (ho : i < 0 ∨ ((blk l).length : Int) ≤ i) :
    Calls Try.prog 48 #[.slice ao L cap, .int .i64 i] w fun e w' => e = .returned (.tuple #[.int .i64 0, .bool false]) ∧ Gr [] w w' := by
  have q := emap_O l L i ao cap w h hL hs hi
  rw [mapO_none ho] at q
  exact q

end Go.Proofs.Ytpkhfdcokcchdaa
