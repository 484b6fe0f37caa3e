/-
  Layer 18: Parse in one word; the law's example; PathParses.
-/
import Derived.Test.YtnmenihahgggmaaPaV
import Derived.Deep.RegionHeld3
import Derived.RegionTactic
namespace Go.Proofs.Ytnmenihahgggmaa
open Go.RowKit Go.Shelf

theorem calls_below {P : Program} {f : FuncId} {args : Array Value} {w : World} {v : Value} (h : Calls P f args w fun e w' => e = .returned v ∧ Gr [] w w') : Calls P f args w fun e w' => e = .returned v ∧ Below w.heap.size w w' :=
  h.mono fun _ _ ⟨a, b⟩ => ⟨a, b.below0⟩
theorem minAB (P : Program) (x y : Int) (m : Nat) (h : (m : Int) = min x y) (ts : Array TypeId) (t : TypeId) (w : World) : (Builtin.min_ ts t #[.int .i64 x, .int .i64 y]).run P w = .ok (.int .i64 (m : Int)) w := by
  rw [run_min_int2]
  have : (if y < x then y else x) = (m : Int) := by split <;> omega
  rw [this]
/-- The way of a path: nothing where it is none. -/
def wayL (s : List UInt8) : List (List UInt8) := if errP s = 0 then partsP s else []
def wayA (s : List UInt8) : Bool := decide (errP s = 0) && absP s
def wayD (s : List UInt8) : Bool := decide (errP s = 0) && dirP s
theorem err_ok {s : List UInt8} (h : errP s = 0) : s ≠ [] ∧ s.length ≤ 256 ∧ (partsP s).all okP = true := by
  unfold errP at h
  by_cases h0 : s = []
  · rw [if_pos h0] at h; omega
  · rw [if_neg h0] at h
    by_cases h1 : 256 < s.length
    · rw [if_pos h1] at h; omega
    · rw [if_neg h1] at h
      refine ⟨h0, by omega, ?_⟩
      by_cases h2 : (partsP s).all okP = true
      · exact h2
      · rw [if_neg h2] at h; omega
theorem way_parts (s : List UInt8) : ∀ p ∈ wayL s, 47 ∉ p ∧ p ≠ [] ∧ p ≠ [46] := by
  intro p hp
  unfold wayL at hp
  split at hp
  · exact parts_no s p hp
  · cases hp
theorem way_ok (s : List UInt8) : (wayL s).all okP = true := by
  unfold wayL
  split
  · exact (err_ok (by assumption)).2.2
  · rfl
theorem way_len (s : List UInt8) : (wayL s).length ≤ 257 ∧ ((wayL s).map List.length).sum ≤ 256 := by
  unfold wayL
  split
  · have h := err_ok (by assumption)
    have h1 := parts_len s
    have h2 := parts_sum s
    omega
  · simp
theorem err_lt (s : List UInt8) : 0 ≤ errP s ∧ errP s ≤ 18 := by
  unfold errP
  split
  · omega
  · split
    · omega
    · split <;> omega
/-- What Parse answers, in one word. -/
def ParU (s : List UInt8) (w : World) (e : Ending) (w' : World) : Prop :=
  ∃ ao cap, e = .returned (.tuple #[.agg #[.bool (wayA s), .slice ao (wayL s).length cap, .bool (wayD s)], .int .i64 (errP s)]) ∧ SlS w' (.slice ao (wayL s).length cap) (wayL s) ∧ Gr [] w w'
theorem parU {s : List UInt8} {w : World} {e : Ending} {w' : World} (h : ParS s w e w') : ParU s w e w' := by
  obtain ⟨g, ⟨h0, rfl⟩ | ⟨h0, v, rfl, ho⟩⟩ := h
  · have hA : wayA s = false := by simp [wayA, h0]
    have hD : wayD s = false := by simp [wayD, h0]
    have hL : wayL s = [] := by simp [wayL, h0]
    unfold ParU
    rw [hA, hD, hL]
    exact ⟨none, 0, rfl, SlS.nil _, g⟩
  · have hA : wayA s = absP s := by simp [wayA, h0]
    have hD : wayD s = dirP s := by simp [wayD, h0]
    have hL : wayL s = partsP s := by simp [wayL, h0]
    obtain ⟨ao, cap, rfl, hr⟩ := own_slS ho
    unfold ParU
    rw [hA, hD, hL, h0]
    exact ⟨ao, cap, rfl, ⟨ao, cap, rfl, hr⟩, g⟩
/-- The same, and the parts lie in memory of their own. -/
def ParF (s : List UInt8) (w : World) (e : Ending) (w' : World) : Prop :=
  ∃ ao cap, e = .returned (.tuple #[.agg #[.bool (wayA s), .slice ao (wayL s).length cap, .bool (wayD s)], .int .i64 (errP s)]) ∧ SlS w' (.slice ao (wayL s).length cap) (wayL s) ∧ Gr [] w w' ∧ ∀ k o, ao = some ⟨k, o, none⟩ → w.heap.size ≤ k
theorem parF {s : List UInt8} {w : World} {e : Ending} {w' : World} (h : ParS s w e w') : ParF s w e w' := by
  obtain ⟨g, ⟨h0, rfl⟩ | ⟨h0, v, rfl, ho⟩⟩ := h
  · have hA : wayA s = false := by simp [wayA, h0]
    have hD : wayD s = false := by simp [wayD, h0]
    have hL : wayL s = [] := by simp [wayL, h0]
    unfold ParF
    rw [hA, hD, hL]
    exact ⟨none, 0, rfl, SlS.nil _, g, fun k o e => by cases e⟩
  · have hA : wayA s = absP s := by simp [wayA, h0]
    have hD : wayD s = dirP s := by simp [wayD, h0]
    have hL : wayL s = partsP s := by simp [wayL, h0]
    obtain ⟨ao, cap, rfl, hr⟩ := own_slS ho
    unfold ParF
    rw [hA, hD, hL, h0]
    refine ⟨ao, cap, rfl, ⟨ao, cap, rfl, hr⟩, g, fun k o e => ?_⟩
    rcases ho.2 with ⟨q, _⟩ | ⟨b, c, cur, q, hb, _⟩
    · injection q with q1; rw [q1] at e; cases e
    · injection q with q1; rw [q1] at e; cases e; exact hb
theorem parse_f (s : List UInt8) (w : World) : Calls Try.prog 7 #[.string (bsL s)] w (ParF s w) := (parse_at s w).mono fun _ _ h => parF h
theorem SlS.grB {w W : World} {ao : Option Addr} {n cap b : Nat} {L : List (List UInt8)} (h : SlS w (.slice ao n cap) L) (g : Gr [b] w W) (hf : ∀ k o, ao = Option.some ⟨k, o, none⟩ → k ≠ b) : SlS W (.slice ao n cap) L := by
  obtain ⟨rfl, h2, h3⟩ := h.some
  refine ⟨ao, cap, rfl, fun i x hi => ?_, h3⟩
  obtain ⟨k, o, q1, q2, q3⟩ := h2 i x hi
  refine ⟨k, o, q1, Nat.lt_of_lt_of_le q2 g.size, ?_⟩
  rw [← q3]
  exact World.cell?_of_block (w := w) (g.block k q2 (by simp; exact hf k o q1))
theorem parse_u (s : List UInt8) (w : World) : Calls Try.prog 7 #[.string (bsL s)] w (ParU s w) := (parse_at s w).mono fun _ _ h => parU h
theorem rparse_u (s : List UInt8) (w : World) : Calls Try.prog 8 #[.string (bsL s)] w (ParU s w) := (rparse_at s w).mono fun _ _ h => parU h
theorem text_way (s : List UInt8) (ao : Option Addr) (cap : Nat) (w : World) (a d : Bool) (h : SlS w (.slice ao (wayL s).length cap) (wayL s)) :
    Calls Try.prog 11 #[.agg #[.bool a, .slice ao (wayL s).length cap, .bool d]] w fun e w' => e = .returned (.string (bsL (textP a (wayL s) d))) ∧ Gr [] w w' := by
  have h1 := way_len s
  have h2 := joinS_len (wayL s)
  exact text_at a d (wayL s) ao cap w h (by omega) (by omega)
theorem rtext_way (s : List UInt8) (ao : Option Addr) (cap : Nat) (w : World) (a d : Bool) (h : SlS w (.slice ao (wayL s).length cap) (wayL s)) :
    Calls Try.prog 12 #[.agg #[.bool a, .slice ao (wayL s).length cap, .bool d]] w fun e w' => e = .returned (.string (bsL (textP a (wayL s) d))) ∧ Gr [] w w' := by
  have h1 := way_len s
  exact rtext_at a d (wayL s) ao cap w h (by omega) (by omega) (fun p hp => (way_parts s p hp).2.1)
set_option maxRecDepth 100000 in
set_option maxHeartbeats 4000000 in
theorem wakes18_any (w : World) : Calls Try.prog 9 #[] w fun e w' => e = .returned (.bool true) ∧ Gr [] w w' := by
  have HP := Lib.hid (parse_u [47, 97, 47, 47, 46, 47, 98, 47])
  have hE : errP [47, 97, 47, 47, 46, 47, 98, 47] = 0 := by decide
  have hA : wayA [47, 97, 47, 47, 46, 47, 98, 47] = true := by decide
  have hD : wayD [47, 97, 47, 47, 46, 47, 98, 47] = true := by decide
  have hL : wayL [47, 97, 47, 47, 46, 47, 98, 47] = [[97], [98]] := by decide
  have HT := Lib.hid (fun ao cap W h => text_way [47, 97, 47, 47, 46, 47, 98, 47] ao cap W true true h)
  have hX : textP true (wayL [47, 97, 47, 47, 46, 47, 98, 47]) true = [47, 97, 47, 98, 47] := by decide
  have hl1 := bsL_list [98]
  have hl2 := bsL_list [47, 97, 47, 98, 47]
  rw [hX, hL] at HT
  clear hX
  go_enter Try.func9, Try.ntmps9
  go_wp2_with (first
    | (go_at_call 7; refine (HP.out _).mono ?_; rintro e w1 ⟨ao, cap, rfl, hs, g⟩; rw [hA, hD, hL, hE]; rw [hL] at hs; obtain ⟨k, o, rfl, hk⟩ := hs.addr (by simp); have HS := hs.gr0 ((Gr.refl [] w1).alloc (Obj.cells #[.bool true, .slice (some ⟨k, o, none⟩) 2 cap, .bool true] 24)); have hc := (HS.some.2.1.cell (show ([[97], [98]] : List (List UInt8))[1]? = some [98] from rfl)).1; have HTT := Lib.hid (HT.out _ _ _ HS); unfold sv at hc; have b0 := (Holds.new w1 #[.bool true, .slice (some ⟨k, o, none⟩) 2 cap, .bool true] 24).cell 0)
    | (go_at_call 11; refine HTT.out.mono ?_; rintro e w2 ⟨rfl, g2⟩))
  go_ret
  exact ⟨rfl, (g.alloc _).next0 g2⟩

end Go.Proofs.Ytnmenihahgggmaa
