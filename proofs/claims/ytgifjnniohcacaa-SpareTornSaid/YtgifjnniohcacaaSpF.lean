/-
  Layer 5: WriteWord.
-/
import Derived.Test.YtgifjnniohcacaaMgM
import Derived.Deep.CutBlock
namespace Go.Proofs.Ytgifjnniohcacaa
open Go.RowKit

/-- The words of a line, one of them another. -/
def updF (F : Nat → Nat) (k v : Nat) : Nat → Nat := fun j => if j = k then v else F j
def rowU (F : Nat → Nat) : Array Value := #[.int .u64 (F 0 : Int), .int .u64 (F 1 : Int), .int .u64 (F 2 : Int), .int .u64 (F 3 : Int), .int .u64 (F 4 : Int), .int .u64 (F 5 : Int), .int .u64 (F 6 : Int), .int .u64 (F 7 : Int)]
theorem lt8 {k : Nat} (h : k < 8) : k = 0 ∨ k = 1 ∨ k = 2 ∨ k = 3 ∨ k = 4 ∨ k = 5 ∨ k = 6 ∨ k = 7 := by omega
theorem rowU_get (F : Nat → Nat) {k : Nat} (h : k < 8) : (rowU F)[k]? = some (.int .u64 (F k : Int)) := by
  rcases lt8 h with rfl | rfl | rfl | rfl | rfl | rfl | rfl | rfl <;> rfl
theorem rowU_set (F : Nat → Nat) (v : Nat) {k : Nat} (h : k < 8) : (rowU F).setIfInBounds k (.int .u64 (v : Int)) = rowU (updF F k v) := by
  rcases lt8 h with rfl | rfl | rfl | rfl | rfl | rfl | rfl | rfl <;> rfl
def textU (F : Nat → Nat) : ByteArray := ⟨(catL [F 0, F 1, F 2, F 3, F 4, F 5, F 6, F 7]).toArray⟩
theorem textU_size (F : Nat → Nat) : (textU F).size = 64 := by
  show (catL _).toArray.size = 64
  rw [List.size_toArray, catL_length]; rfl
def lineF (D : DevS) (l : Nat) : Nat → Nat := fun j => loadV D (8 * l + j)
theorem lineF_text (D : DevS) (l : Nat) : (⟨(getT D l).toArray⟩ : ByteArray) = textU (lineF D l) := rfl
theorem words_textU (F : Nat → Nat) (hF : ∀ j, F j < 18446744073709551616) : wordsV (textU F) = rowU F := by
  unfold wordsV rowU
  have h := wdL_all [F 0, F 1, F 2, F 3, F 4, F 5, F 6, F 7] (fun n hn => by
    simp only [List.mem_cons, List.not_mem_nil, or_false] at hn
    rcases hn with rfl | rfl | rfl | rfl | rfl | rfl | rfl | rfl <;> exact hF _)
  have e : (textU F).data.toList = catL [F 0, F 1, F 2, F 3, F 4, F 5, F 6, F 7] := by simp [textU]
  rw [e, h 0 _ rfl, h 1 _ rfl, h 2 _ rfl, h 3 _ rfl, h 4 _ rfl, h 5 _ rfl, h 6 _ rfl, h 7 _ rfl]
def writeWordS (p : PlanZ) (i k : Int) (v : Nat) (D : DevS) (B : BkS) : Int × DevS × BkS :=
  if k < 0 ∨ 8 ≤ k then (2, D, B)
  else if inP p i then
    (if D.off then (6, D, B)
    else if (pwE D (placeP p B i) k v).1 ≠ 0 then ((pwE D (placeP p B i) k v).1, (pwE D (placeP p B i) k v).2, B)
    else ensureS p i (placeP p B i) (textU (updF (lineF D (placeP p B i).toNat) k.toNat v)) (pwE D (placeP p B i) k v).2 B)
  else (3, D, B)
theorem bww_nil (i k : Int) (v : Nat) (w : World) : Calls Try.prog 19 #[.pointer none, .int .i64 i, .int .i64 k, .int .u64 (v : Int)] w fun e w' => e = .returned (.int .i64 1) ∧ w' = w := by
  go_enter Try.func19, Try.ntmps19
  go_wp2_with fail
  go_ret
  exact ⟨rfl, rfl⟩
end Go.Proofs.Ytgifjnniohcacaa
