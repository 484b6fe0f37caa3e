/-
  Contracts of the reference functions of layer 1: each returns what the plain functions compute.
-/
import Derived.Test.YtdgcninmpcmdcaaLe
namespace Go.Proofs.Ytdgcninmpcmdcaa
open Go.RowKit

def byteV (b : UInt8) : Value := .int .u8 (b.toNat : Int)
theorem infoU8 : (Try.prog.info? 5).map (fun i => (i.zero, i.size, i.bytes)) = some (some (.int .u8 0), 1, 1) := by kernel_rfl

/-- A slice of bytes that the call owns, as a string. -/
theorem own_conv {w : World} {B n : Nat} {v : Value} {l : List UInt8} (h : w.ownsRow B 5 1 v n (l.map byteV)) :
    (convert 23 9 v).run Try.prog w = .ok (.string ⟨l.toArray⟩) w := by
  have hl : l.length = n := by simpa using h.1
  rcases h.2 with ⟨rfl, hn⟩ | ⟨g, cap, cur, rfl, _, hg, hle, _, hs, htake⟩
  · have : l = [] := List.length_eq_zero_iff.1 (by omega)
    subst this
    have e := run_convert_bytes_string (P := Try.prog) w 23 9 5 none 0 0 Try.underlying23 Try.underlying5 Try.underlying9
    rw [e]
    rfl
  · subst hl
    have e := run_convert_bytes_back (P := Try.prog) w 23 9 5 ⟨g, 0, none⟩ cap l Try.underlying23 Try.underlying5 Try.underlying9 (fun i hi => by
      have hc : w.cell? (Addr.add ⟨g, 0, none⟩ i) = cur[i]? := by
        have := cell_of_row w g i cur 5 (0, 0) hg
        unfold Addr.add
        split
        · rename_i h0; subst h0; exact this
        · simp [this]
      rw [hc]
      have h1 : (cur.toList.take (l.length * 1))[i]? = (l.map byteV)[i]? := by rw [htake]
      rw [List.getElem?_take_of_lt (by omega)] at h1
      simp [List.getElem?_eq_getElem hi] at h1
      rw [h1]; rfl)
    exact e

theorem putL_div (n k : Nat) : putL n (k + 1) = putL n k ++ [UInt8.ofNat (n / 256 ^ k % 256)] := putL_succ n k

theorem rget_round (s : ByteArray) (k : Nat) (h : k < s.size) (h8 : k < 8) :
    IntKind.u64.wrap (((getL (s.data.toList.take k) : Nat) : Int) + IntKind.u64.wrap (((p256 k : Nat) : Int) * IntKind.u64.wrap (s[k].toNat : Int))) = ((getL (s.data.toList.take (k + 1)) : Nat) : Int) := by
  have hl : k < s.data.toList.length := by simpa using h
  have e := getL_take_mul s.data.toList k hl
  have hb : s[k].toNat < 256 := s[k].toNat_lt
  have g := getL_take_lt s.data.toList (k + 1) (by omega)
  have es : s.data.toList[k] = s[k] := rfl
  rw [es] at e
  have w0 : IntKind.u64.wrap (s[k].toNat : Int) = (s[k].toNat : Int) := IntWalk.u64_in _ (by omega)
  have e' : getL (s.data.toList.take k) + p256 k * s[k].toNat = getL (s.data.toList.take (k + 1)) := e
  clear e
  rw [w0, ← Int.natCast_mul]
  generalize p256 k * s[k].toNat = z at *
  have w2 : IntKind.u64.wrap (z : Int) = (z : Int) := IntWalk.u64_in _ (by omega)
  rw [w2, IntWalk.u64_in _ (by omega)]
  omega

/-- The high j bits of a field, and the number above the bits still to come. -/
def topF (n : Nat) (m j : Nat) : Nat := n / 2 ^ m % 2 ^ j
def topW (r m : Nat) : Nat := r / 2 ^ m
theorem topF_step (n m j : Nat) (hj : j < 64) : IntKind.u64.wrap (IntKind.u64.wrap (2 * ((topF n (m + 1) j : Nat) : Int)) + ((bitN n m : Nat) : Int)) = ((topF n m (j + 1) : Nat) : Int) := by
  have e : 2 * topF n (m + 1) j + bitN n m = topF n m (j + 1) := by
    unfold topF bitN
    rw [Nat.pow_succ 2 m, ← Nat.div_div_eq_div_mul]
    exact bit_up _ _
  have hl : topF n m (j + 1) < 2 ^ (j + 1) := Nat.mod_lt _ (Nat.two_pow_pos _)
  have hl2 : (2 : Nat) ^ (j + 1) ≤ 2 ^ 64 := Nat.pow_le_pow_right (by omega) (by omega)
  rw [IntWalk.u64_in (2 * _) (by omega), IntWalk.u64_in _ (by omega)]
  omega
theorem topW_step (r m : Nat) (hr : r < 18446744073709551616) : IntKind.u64.wrap (IntKind.u64.wrap (2 * ((topW r (m + 1) : Nat) : Int)) + ((bitN r m : Nat) : Int)) = ((topW r m : Nat) : Int) := by
  have e : 2 * topW r (m + 1) + bitN r m = topW r m := by
    unfold topW bitN
    rw [Nat.pow_succ 2 m, ← Nat.div_div_eq_div_mul]
    exact bit_down _
  have hl : topW r m ≤ r := Nat.div_le_self _ _
  rw [IntWalk.u64_in (2 * _) (by omega), IntWalk.u64_in _ (by omega)]
  omega

end Go.Proofs.Ytdgcninmpcmdcaa
