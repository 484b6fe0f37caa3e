/-
  The walk of CrcTells.
-/
import Derived.Test.YtpkhfdcokcchdabDoorLawE
import Derived.Test.YtpkhfdcokcchdabDoorCrcPure2
namespace Go.Proofs.YtpkhfdcokcchdabDoor
open Go.RowKit

/-- '[]byte(s)': new cells, the string's bytes among them. -/
theorem bytes_of (w : World) (s : ByteArray) : ∃ (W1 : World) (C : Nat), (convert 9 47 (.string s)).run Tryd.prog w = .ok (.slice (some ⟨w.heap.size, 0, none⟩) s.size C) W1 ∧
    (∀ j (h : j < s.size), W1.cell? ⟨w.heap.size, j, none⟩ = some (.int .u8 (s[j].toNat : Int))) ∧ (∀ j, j < s.size → W1.frozen? ⟨w.heap.size, j, none⟩ = false) ∧ Below w.heap.size w W1 ∧ w.heap.size < W1.heap.size := by
  refine ⟨_, _, run_bytes_of_string w _ _ 5 s Tryd.underlying9 Tryd.underlying47 Tryd.underlying5, ?_, ?_, ?_, ?_⟩
  · intro j h
    generalize grownCap w s.size 0 5 = c
    rw [cell_of_row _ w.heap.size j (bytesRow s c) 5 _ (heap_alloc_new w.drew _)]
    unfold bytesRow
    rw [Array.getElem?_append_left (by simpa using h)]
    have hd : j < s.data.size := h
    have e : (s.data.map fun b => Value.int .u8 (b.toNat : Int))[j]? = some (.int .u8 (s.data[j].toNat : Int)) := by
      rw [Array.getElem?_map, Array.getElem?_eq_getElem hd]; rfl
    exact e
  · intro j h
    generalize grownCap w s.size 0 5 = c
    have hj : j < (bytesRow s c).size := by
      unfold bytesRow
      have hd : j < s.data.size := h
      simp; omega
    have hb : (w.drew.alloc (.cells (bytesRow s c) 5 ((bytesRow s c).size, (bytesRow s c).size + 1))).heap[w.heap.size]? = some (.cells (bytesRow s c) 5 ((bytesRow s c).size, (bytesRow s c).size + 1)) := heap_alloc_new w.drew _
    simp only [World.frozen?, hb]
    simp
    omega
  · exact ((Below.refl _ _).drew).alloc (Nat.le_refl _) _
  · show w.heap.size < (w.heap.push _).size
    simp

theorem xor_bit (n : Nat) (hn : n < 18446744073709551616) (j : Nat) (hj : j < 64) : bits .xor .u64 (n : Int) (IntKind.u64.wrap (2 ^ j)) = ((n ^^^ 2 ^ j : Nat) : Int) := by
  have h2 : (2 : Nat) ^ j < 18446744073709551616 := by
    have : (2 : Nat) ^ j < 2 ^ 64 := Nat.pow_lt_pow_right (by omega) hj
    omega
  have e : IntKind.u64.wrap ((2 : Int) ^ j) = ((2 ^ j : Nat) : Int) := by
    have c : ((2 : Int) ^ j) = ((2 ^ j : Nat) : Int) := by push_cast; rfl
    rw [c]
    clear c
    generalize (2 : Nat) ^ j = t at *
    exact IntWalk.u64_in _ (by omega)
  rw [e, u64_xor_nat n _ hn h2]

theorem n32_inj {x y : BitVec 32} (h : n32 x = n32 y) : x = y := BitVec.eq_of_toNat_eq h
theorem u8_of {a : Int} (h : 0 ≤ a ∧ a ≤ 255) : ∃ b : UInt8, a = (b.toNat : Int) := by
  refine ⟨UInt8.ofNat a.toNat, ?_⟩
  have : (UInt8.ofNat a.toNat).toNat = a.toNat % 256 := by simp
  rw [this]; omega

/-- The bytes behind '[]byte(s)', one of them written, as a string again. -/
theorem back_conv (W1 : World) (g C : Nat) (S : ByteArray) (p : Nat) (x : UInt8) (hp : p < S.size)
    (hcells : ∀ j (h : j < S.size), W1.cell? ⟨g, j, none⟩ = some (.int .u8 (S[j].toNat : Int))) (q : Nat) :
    (convert 47 9 (.slice (some ⟨g, 0, none⟩) S.size C)).run Tryd.prog ((W1.setCell ⟨g, p, none⟩ (.int .u8 (x.toNat : Int))).drewN q) =
      .ok (.string ⟨(S.data.toList.set p x).toArray⟩) ((W1.setCell ⟨g, p, none⟩ (.int .u8 (x.toNat : Int))).drewN q) := by
  have h := run_convert_bytes_back (P := Tryd.prog) ((W1.setCell ⟨g, p, none⟩ (.int .u8 (x.toNat : Int))).drewN q) 47 9 5 ⟨g, 0, none⟩ C (S.data.toList.set p x) Tryd.underlying47 Tryd.underlying5 Tryd.underlying9 (fun i hi => by
    have hi' : i < S.size := by simpa using hi
    have ea : Addr.add ⟨g, 0, none⟩ i = ⟨g, i, none⟩ := by
      unfold Addr.add
      split
      · rename_i h0; subst h0; rfl
      · simp
    have ed : ((W1.setCell ⟨g, p, none⟩ (.int .u8 (x.toNat : Int))).drewN q).cell? (Addr.add ⟨g, 0, none⟩ i) = (W1.setCell ⟨g, p, none⟩ (.int .u8 (x.toNat : Int))).cell? ⟨g, i, none⟩ := by rw [ea]; rfl
    rw [ed]
    by_cases e : i = p
    · subst e
      rw [World.cell?_setCell_same _ _ _ (hcells i hi')]
      simp
    · rw [World.cell?_setCell_other _ _ _ _ (by simp [e]), hcells i hi', List.getElem_set_ne (by omega)]
      rfl)
  have el : (S.data.toList.set p x).length = S.size := by simp
  rw [el] at h
  exact h

end Go.Proofs.YtpkhfdcokcchdabDoor
