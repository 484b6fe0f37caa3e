/-
  Contracts of the reference functions of layer 1: each returns what the plain functions compute.
-/
import Derived.Test.YtifekejcbhllpaaGreatSkAf

namespace Go.Proofs.YtifekejcbhllpaaGreat
open Go.RowKit

def byteV (b : UInt8) : Value := .int .u8 (b.toNat : Int)
theorem infoU8 : (Tryz.prog.info? 5).map (fun i => (i.zero, i.size, i.bytes)) = some (some (.int .u8 0), 1, 1) := by kernel_rfl

/-- A slice of bytes that the call owns, as a string. -/
theorem own_conv {w : World} {B n : Nat} {v : Value} {l : List UInt8} (h : w.ownsRow B 5 1 v n (l.map byteV)) :
    (convert 74 9 v).run Tryz.prog w = .ok (.string ⟨l.toArray⟩) w := by
  have hl : l.length = n := by simpa using h.1
  rcases h.2 with ⟨rfl, hn⟩ | ⟨g, cap, cur, rfl, _, hg, hle, _, hs, htake⟩
  · have : l = [] := List.length_eq_zero_iff.1 (by omega)
    subst this
    have e := run_convert_bytes_string (P := Tryz.prog) w 74 9 5 none 0 0 Tryz.underlying74 Tryz.underlying5 Tryz.underlying9
    rw [e]
    rfl
  · subst hl
    have e := run_convert_bytes_back (P := Tryz.prog) w 74 9 5 ⟨g, 0, none⟩ cap l Tryz.underlying74 Tryz.underlying5 Tryz.underlying9 (fun i hi => by
      have hc : w.cell? (Addr.add ⟨g, 0, none⟩ i) = cur[i]? := by
        have := cell_of_row w g i cur 5 (0, 0) hg
        unfold Addr.add
        split
        · rename_i h0; subst h0; exact this
        · simp [this]
      rw [hc]
      have h1 : (cur.toList.take (l.length * 1))[i]? = (l.map byteV)[i]? := by rw [htake]
      rw [List.getElem?_take_of_lt (by omega)] at h1
      simp [List.getElem?_eq_getElem hi] at h1
      rw [h1]; rfl)
    exact e

end Go.Proofs.YtifekejcbhllpaaGreat
