/-
  The reference's Sum16 and Guard.
-/
import Derived.Test.YtpkhfdcokcchdabDoorSum2
import Derived.Test.YtpkhfdcokcchdabDoorLawE
namespace Go.Proofs.YtpkhfdcokcchdabDoor
open Go.RowKit

theorem size_is3 (l : List UInt8) : (ByteArray.mk l.toArray).size = l.length := by simp [ByteArray.size]
theorem own_zero {w : World} {base : Nat} {e : TypeId} {size n : Nat} {v : Value} {xs : List Value} (h : w.ownsRow base e size v n xs) : w.ownsRow 0 e size v n xs := by
  refine ⟨h.1, ?_⟩
  rcases h.2 with hn | ⟨g, cap, cur, hv, hg, rest⟩
  · exact .inl hn
  · exact .inr ⟨g, cap, cur, hv, Nat.zero_le _, rest⟩
theorem own_slice {w : World} {base : Nat} {e : TypeId} {size n : Nat} {v : Value} {xs : List Value} (h : w.ownsRow base e size v n xs) (hn : n ≠ 0) : ∃ g cap, v = .slice (some ⟨g, 0, none⟩) n cap ∧ base ≤ g := by
  rcases h.2 with ⟨_, h0⟩ | ⟨g, cap, cur, hv, hg, rest⟩
  · exact absurd h0 hn
  · exact ⟨g, cap, hv, hg⟩
theorem own_new (w : World) (e : TypeId) (cs : Array Value) (h : cs.size ≤ maxLen) : (w.alloc (.cells cs e)).ownsRow 0 e 1 (.slice (some ⟨w.heap.size, 0, none⟩) cs.size cs.size) cs.size cs.toList := by
  refine ⟨by simp, .inr ⟨w.heap.size, cs.size, cs, rfl, Nat.zero_le _, heap_alloc_new w _, Nat.le_refl _, h, by simp, ?_⟩⟩
  rw [Nat.mul_one, ← Array.length_toList, List.take_length]

theorem reg_step {w : Nat} (p x : BitVec w) (f : Nat → Bool) (b : Bool) (hw : 0 < w) (h : ∀ j, j < w → f j = x.getMsbD j) : ∀ j, j < w → stF w (fun j => p.getMsbD j) f b j = (st p x b).getMsbD j := by
  intro j hj
  have hm : x.msb = f 0 := by rw [h 0 hw, BitVec.msb]
  have hs : shF w f j = (x <<< 1).getMsbD j := by
    unfold shF
    rw [BitVec.getMsbD_shiftLeft]
    by_cases c : j + 1 < w
    · rw [if_pos c, h _ c]
    · rw [if_neg c, BitVec.getMsbD]
      simp; intro hc; omega
  unfold stF st
  rw [BitVec.getMsbD_xor, hs, hm]
  by_cases c : (f 0 ^^ b) = true
  · rw [if_pos c, if_pos c]
  · rw [if_neg c, if_neg c]; simp
theorem reg_fold {w : Nat} (p : BitVec w) (hw : 0 < w) (l : List Bool) : ∀ (x : BitVec w) (f : Nat → Bool), (∀ j, j < w → f j = x.getMsbD j) → ∀ j, j < w → (l.foldl (stF w (fun j => p.getMsbD j)) f) j = (l.foldl (st p) x).getMsbD j := by
  induction l with
  | nil => intro x f h; exact h
  | cons b l ih =>
    intro x f h
    simp only [List.foldl_cons]
    exact ih _ _ (reg_step p x f b hw h)
theorem bitsD_hi (u : UInt8) : bitsD false u = bitsHi u := by
  unfold bitsD bitsHi
  simp
theorem ones16 : ∀ j, j < 16 → (fun _ : Nat => true) j = (0xFFFF#16).getMsbD j := by decide
def turns16 : List Value := [.int .i64 0, .int .i64 0, .int .i64 0, .int .i64 1, .int .i64 0, .int .i64 0, .int .i64 0, .int .i64 0, .int .i64 0, .int .i64 0, .int .i64 1, .int .i64 0, .int .i64 0, .int .i64 0, .int .i64 0, .int .i64 1]
theorem bits16 : ∀ j : Fin 16, (List.map (fun b : Bool => (b.toNat : Int)) [false, false, false, true, false, false, false, false, false, false, true, false, false, false, false, true])[j]? = some (((0x1021#16).getMsbD j).toNat : Int) := by decide
theorem turns_reg : RegIs turns16 16 (fun j => (0x1021#16).getMsbD j) := by
  refine ⟨rfl, fun j hj => ?_⟩
  have h := bits16 ⟨j, hj⟩
  have e : turns16 = (List.map (fun b : Bool => (b.toNat : Int)) [false, false, false, true, false, false, false, false, false, false, true, false, false, false, false, true]).map (Value.int .i64) := rfl
  rw [e, List.getElem?_map]
  simp only [Fin.getElem?_fin] at h
  rw [h]; rfl
theorem sum16_num (l : List UInt8) (F : Nat → Bool) (h : F = (preB false l).foldl (stF 16 (fun j => (0x1021#16).getMsbD j)) (fun _ => true)) : numF F 16 = n16 (sum16 l) := by
  have hp : preB false l = l.flatMap bitsHi := by
    unfold preB
    rw [show bitsD false = bitsHi from funext bitsD_hi]
  have hf := reg_fold (0x1021#16) (by omega) (l.flatMap bitsHi) 0xFFFF#16 (fun _ => true) ones16
  rw [sum16_bits] at hf
  subst h
  rw [hp]
  exact numF_all (c16 l 0xFFFF#16) _ hf

theorem guard_num (n : Nat) (hn : n < 18446744073709551616) : (65535 - n16 (sum16 (putL n 6))) * 281474976710656 + n % 281474976710656 = guardN n := by
  have hc : n16 (check n) = 65535 - n16 (sum16 (putL n 6)) := by
    unfold check n16
    rw [BitVec.toNat_not]
  have hl := n16_lt (check n)
  unfold guardN withN
  rw [if_pos (by unfold okF; omega), ← hc]
  have e1 : (48 : Int).toNat = 48 := rfl
  have e2 : (16 : Int).toNat = 16 := rfl
  rw [e1, e2]
  omega

end Go.Proofs.YtpkhfdcokcchdabDoor
