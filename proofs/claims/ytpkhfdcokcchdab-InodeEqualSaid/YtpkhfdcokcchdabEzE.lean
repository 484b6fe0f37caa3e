/-
  Layer 15: Parse of any bytes.
-/
import Derived.Test.YtpkhfdcokcchdabEzB
namespace Go.Proofs.Ytpkhfdcokcchdab
open Go.RowKit

theorem eparse_of (T : List (Int × Int)) (S : ByteArray) (w : World) (h : Right15 T) (hS : S.data.toList = bytP T) :
    Calls Try.prog 42 #[.string S] w fun e w' => ∃ ao cap, e = .returned (.tuple #[.slice ao T.length cap, .int .i64 0]) ∧ Sl2 w' (.slice ao T.length cap) T ∧ Gr [] w w' := by
  have hz : S.size = 8 * T.length := by rw [Lib.size_eq, hS, bytP_len]
  have hp := parP_of h hS T.length (by rw [← Lib.size_eq]; exact hz)
  refine (eparse_in S T.length w hz h.1).mono ?_
  rw [hp]
  rintro e w' ⟨g, ⟨ao, cap, rfl, hs, _⟩ | ⟨hn, _⟩⟩
  · exact ⟨ao, cap, rfl, hs, g⟩
  · exact absurd h hn
/-- What Parse answers, of any bytes. -/
theorem eparse_anyO (s : ByteArray) (w : World) (hs : s.size ≤ maxLen) :
    Calls Try.prog 42 #[.string s] w fun e w' => Gr [] w w' ∧ ((∃ T ao cap, e = .returned (.tuple #[.slice ao T.length cap, .int .i64 0]) ∧ Sl2 w' (.slice ao T.length cap) T ∧ (∀ x, (Value.slice ao T.length cap).ownBlock = some x → w.heap.size ≤ x) ∧ Right15 T ∧ s.data.toList = bytP T) ∨ ((¬ ∃ T, Right15 T ∧ s.data.toList = bytP T) ∧ e = .returned (.tuple #[.slice none 0 0, .int .i64 4]))) := by
  by_cases h8 : s.size % 8 = 0 ∧ s.size ≤ 512
  · obtain ⟨K, hK⟩ : ∃ K, s.size = 8 * K := ⟨s.size / 8, by omega⟩
    have hl : s.data.toList.length = 8 * K := by rw [← Lib.size_eq]; exact hK
    have hb := bytP_parP s.data.toList K (by omega)
    rw [List.take_of_length_le (by omega)] at hb
    have hpl := parP_len s.data.toList K
    refine (eparse_inO s K w hK (by omega)).mono ?_
    rintro e w' ⟨g, ⟨ao, cap, rfl, hs, ho, hr⟩ | ⟨hn, rfl⟩⟩
    · refine ⟨g, .inl ⟨parP s.data.toList K, ao, cap, ?_, ?_, ?_, hr, hb.symm⟩⟩
      · rw [hpl]
      · rw [hpl]; exact hs
      · rw [hpl]; exact ho
    · refine ⟨g, .inr ⟨?_, rfl⟩⟩
      rintro ⟨T, hT, he⟩
      exact hn (by rw [parP_of hT he K hl]; exact hT)
  · refine (eparse_out s w hs h8).mono ?_
    rintro e w' ⟨rfl, rfl⟩
    refine ⟨Gr.refl _ _, .inr ⟨?_, rfl⟩⟩
    rintro ⟨T, hT, he⟩
    have := bytP_len T
    rw [← he, ← Lib.size_eq] at this
    have := hT.1
    omega
theorem eparse_any (s : ByteArray) (w : World) (hs : s.size ≤ maxLen) :
    Calls Try.prog 42 #[.string s] w fun e w' => Gr [] w w' ∧ ((∃ T ao cap, e = .returned (.tuple #[.slice ao T.length cap, .int .i64 0]) ∧ Sl2 w' (.slice ao T.length cap) T ∧ Right15 T ∧ s.data.toList = bytP T) ∨ ((¬ ∃ T, Right15 T ∧ s.data.toList = bytP T) ∧ e = .returned (.tuple #[.slice none 0 0, .int .i64 4]))) := by
  refine (eparse_anyO s w hs).mono ?_
  rintro e w' ⟨g, ⟨T, ao, cap, he, hs, _, hr, hb⟩ | ⟨hn, he⟩⟩
  · exact ⟨g, .inl ⟨T, ao, cap, he, hs, hr, hb⟩⟩
  · exact ⟨g, .inr ⟨hn, he⟩⟩

end Go.Proofs.Ytpkhfdcokcchdab
