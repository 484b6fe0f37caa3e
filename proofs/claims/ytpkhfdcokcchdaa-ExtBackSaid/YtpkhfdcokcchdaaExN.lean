/-
  Layer 15: wakes; tame and list of any slice.
-/
import Derived.Test.YtpkhfdcokcchdaaExM
import Derived.Test.YtpkhfdcokcchdaaFrameJ
namespace Go.Proofs.Ytpkhfdcokcchdaa
open Go.RowKit

theorem wk1 : joinP ([] ++ [((-1 : Int), (3 : Int))]) = [(-1, 3)] := rfl
theorem wk2 : joinP (fillP [(-1, 3)] 1 1 7) = [(-1, 1), (7, 1), (-1, 1)] := by decide
theorem wk3 : heldZ (firstP (restP [(-1, 3)] ((1 : Nat) : Int)) ((1 : Nat) : Int)) = 0 := by decide
theorem wk4 : Right15 [(-1, 1), (7, 1), (-1, 1)] := .of (by simp) (by simp) rfl (by simp [sumZ])
theorem wk5 : Right15 [((-1 : Int), (3 : Int))] := (one_right _).2 (by simp)
theorem wk0 : Right15 [] := .of (by simp) (by simp) rfl (by simp [sumZ])
theorem eappend_wk (b : Nat) (cap : Nat) (w : World) (hc : cap ≤ maxLen) :
    Calls Try.prog 53 #[.slice (some ⟨b, 0, none⟩) 0 cap, .agg #[.int .i64 (-1), .int .i64 3]] w fun e w' => ∃ ao cap', e = .returned (.tuple #[.slice ao 1 cap', .int .i64 0]) ∧ Sl2 w' (.slice ao 1 cap') [(-1, 3)] ∧ Gr [] w w' := by
  refine (eappend_any [] 0 (some ⟨b, 0, none⟩) cap (-1) 3 w ⟨_, _, rfl, Rd2.nil _ _, Nat.zero_le _, hc, fun q => by cases q⟩).mono ?_
  rintro e w' ⟨g, ⟨h, _⟩ | ⟨_, h, _⟩ | ⟨_, _, _, ao, cap', rfl, hs⟩⟩
  · exact absurd wk0 h
  · exact absurd ⟨wk5, by rw [wk1]; exact wk5⟩ h
  · exact ⟨ao, cap', rfl, hs, g⟩
theorem efill_wk (ao : Option Addr) (cap : Nat) (w : World) (h : Sl2 w (.slice ao 1 cap) [(-1, 3)]) :
    Calls Try.prog 55 #[.slice ao 1 cap, .int .i64 1, .agg #[.int .i64 7, .int .i64 1]] w fun e w' => ∃ ao cap', e = .returned (.tuple #[.slice ao 3 cap', .int .i64 0]) ∧ Sl2 w' (.slice ao 3 cap') [(-1, 1), (7, 1), (-1, 1)] ∧ Gr [] w w' := by
  refine (efill_ok [(-1, 3)] 1 1 1 7 ao cap w h wk5 (by omega) (by omega) (by omega) (by simp [sumZ])).mono ?_
  rintro e w' ⟨g, H⟩
  rw [wk3, wk2] at H
  rcases H with ⟨h, _⟩ | ⟨_, h, _⟩ | ⟨_, _, ao, cap', rfl, hs⟩
  · omega
  · exact absurd wk4 h
  · exact ⟨ao, cap', rfl, hs, g⟩
theorem emap_wk (ao : Option Addr) (cap : Nat) (w : World) (h : Rd2 w ao [(-1, 1), (7, 1), (-1, 1)]) :
    Calls Try.prog 48 #[.slice ao 3 cap, .int .i64 1] w fun e w' => e = .returned (.tuple #[.int .i64 7, .bool true]) ∧ Gr [] w w' := by
  refine (emap_any [(-1, 1), (7, 1), (-1, 1)] 3 1 ao cap w h rfl wk4.small (by omega)).mono ?_
  rintro e w' ⟨g, ⟨x, hx, rfl⟩ | ⟨hx, _⟩⟩
  · have : x = 7 := by
      have h2 : (blk [(-1, 1), (7, 1), (-1, 1)])[1]? = some 7 := by decide
      rw [h2] at hx
      injection hx with hx
      exact hx.symm
    subst this
    exact ⟨rfl, g⟩
  · have h2 : (blk [(-1, 1), (7, 1), (-1, 1)])[1]? = some 7 := by decide
    rw [h2] at hx
    cases hx
set_option maxHeartbeats 2000000 in
theorem ewakes15 (w : World) : Calls Try.prog 52 #[] w fun e w' => e = .returned (.bool true) ∧ Gr [] w w' := by
  go_enter Try.func52, Try.ntmps52
  have HG0 := Lib.hid ((Gr.refl [] w).alloc (Obj.cells #[] 35))
  go_wp2_with fail
  refine (eappend_wk _ 0 _ (Nat.zero_le _)).mono ?_
  rintro e w1 ⟨a1, c1, rfl, s1, g1⟩
  have H1 := Lib.hid (And.intro s1 (HG0.out.next0 g1))
  clear s1 g1
  go_wp2_with fail
  refine (efill_wk a1 c1 w1 H1.out.1).mono ?_
  rintro e w2 ⟨a2, c2, rfl, s2, g2⟩
  have H2 := Lib.hid (And.intro (H1.out.1.gr0 g2) (And.intro s2 (H1.out.2.next0 g2)))
  clear s2 g2
  go_wp2_with fail
  refine (emap_wk a2 c2 w2 (sl2_parts H2.out.2.1).2.1).mono ?_
  rintro e w3 ⟨rfl, g3⟩
  have H3 := Lib.hid (And.intro (H2.out.1.gr0 g3) (And.intro (H2.out.2.1.gr0 g3) (H2.out.2.2.next0 g3)))
  clear g3
  go_wp2_with fail
  refine (eblocks_any _ 3 3 a2 c2 w3 (sl2_parts H3.out.2.1).2.1 rfl wk4.small rfl).mono ?_
  rintro e w4 ⟨rfl, g4⟩
  have H4 := Lib.hid (And.intro (H3.out.1.gr0 g4) (And.intro (H3.out.2.1.gr0 g4) (H3.out.2.2.next0 g4)))
  clear g4
  go_wp2_with fail
  refine (eheld_any _ 3 1 a2 c2 w4 (sl2_parts H4.out.2.1).2.1 rfl wk4.small rfl).mono ?_
  rintro e w5 ⟨rfl, g5⟩
  have H5 := Lib.hid (And.intro (H4.out.1.gr0 g5) (H4.out.2.2.next0 g5))
  clear g5
  go_wp2_with fail
  refine (eheld_any _ 1 0 a1 c1 w5 (sl2_parts H5.out.1).2.1 rfl wk5.small rfl).mono ?_
  rintro e w6 ⟨rfl, g6⟩
  have H6 := Lib.hid (H5.out.2.next0 g6)
  clear g6
  go_wp2_with fail
  go_ret
  exact ⟨rfl, H6.out⟩

theorem nil_of_none {w : World} {N cap : Nat} {l : List (Int × Int)} (h : Sl2 w (.slice none N cap) l) : l = [] ∧ N = 0 ∧ cap = 0 := by
  obtain ⟨h1, h2, _, _, h5⟩ := sl2_parts h
  have : l = [] := by
    match l with
    | [] => rfl
    | e :: r =>
      obtain ⟨b, o, hb, _⟩ := h2 0 e rfl
      cases hb
  subst this
  exact ⟨rfl, h1, h5 rfl⟩
theorem etame_zero (ao : Option Addr) (cap : Nat) (w : World) (hO : ao = none → cap = 0) (hmax : cap ≤ maxLen) :
    Calls Try.prog 40 #[.slice ao 0 cap] w fun e w' => ∃ v, e = .returned v ∧ w'.ownsRow w.heap.size 44 2 v (tamed []).length (cells2 (tamed [])) ∧ Gr [] w w' := by
  have hmn := minZ Try.prog 0 20 0 (by omega)
  have HRN := Lib.hid (rruns_any [] 0 none 0 w (fun i x h => by simp at h) rfl (fun x hx => by simp at hx) (by omega))
  unfold maxLen at hmax
  go_enter Try.func40, Try.ntmps40
  go_wp2_with fail
  clear hmn
  go_loopw [3, 15] (fun v i wr => v = .slice none 0 0 ∧ i = .int .i64 0 ∧ wr = w) (fun _ _ _ => 0)
  case atStart => exact ⟨rfl, rfl, rfl⟩
  case round =>
    obtain ⟨rfl, rfl, rfl⟩ := hrel
    go_wp2_with fail
    refine HRN.out.mono ?_
    rintro e w2 ⟨v, rfl, ho, g⟩
    have HF := Lib.hid (And.intro ho g)
    clear ho g
    go_wp2_with fail
    go_ret
    exact ⟨_, rfl, HF.out.1, HF.out.2⟩
theorem etame_any {v : Value} {w : World} (h : SlN 2 w v) :
    ∃ l : List (Int × Int), Calls Try.prog 40 #[v] w fun e w' => ∃ v, e = .returned v ∧ w'.ownsRow w.heap.size 44 2 v (tamed l).length (cells2 (tamed l)) ∧ Gr [] w w' := by
  rcases h with ⟨ao, cap, rfl, hn, hm⟩ | ⟨b, off, n, cap, f, rfl, h0, hc, hm, hb, hx⟩
  · exact ⟨[], etame_zero ao cap w hn hm⟩
  · refine ⟨(List.range n).map fun i => (f i 0, f i 1), etame_some _ n b off cap w (fun i e hi => ?_) (by simp) hc⟩
    have hin : i < n := by
      have := (List.getElem?_eq_some_iff.1 hi).1
      simpa using this
    rw [List.getElem?_map, List.getElem?_range hin] at hi
    simp at hi
    subst hi
    exact ⟨b, off, rfl, hb, (hx i hin 0 (by omega)).1, (hx i hin 1 (by omega)).1⟩
theorem elist_any (l : List (Int × Int)) (v : Value) (base : Nat) (t : TypeId) (w : World) (h : w.ownsRow base t 2 v l.length (cells2 l)) (hl : l.length ≤ 70) :
    Calls Try.prog 41 #[v] w fun e w' => ∃ v1 v2, e = .returned (.tuple #[v1, v2]) ∧ w'.ownsRow w.heap.size 35 2 v1 l.length (cells2 l) ∧ Gr [] w w' := by
  have hs := own_sl2 h
  rcases h.2 with ⟨q1, q2⟩ | ⟨g, cap', cur, q, hb, hg, h1, h2, h3, h4⟩
  · subst q1
    obtain ⟨rfl, _, _⟩ := nil_of_none hs
    refine (elist_none w).mono ?_
    rintro e w' ⟨rfl, g⟩
    exact ⟨_, _, rfl, World.ownsRow_nil _ _ _ _, g⟩
  · subst q
    obtain ⟨_, hr, hc, hm, _⟩ := sl2_parts hs
    refine (elist_some l l.length g 0 cap' w hr rfl hc hm).mono ?_
    rintro e w' ⟨v1, rfl, ho, gg⟩
    rw [Nat.min_eq_left hl, List.take_length] at ho
    exact ⟨_, _, rfl, ho, gg⟩

end Go.Proofs.Ytpkhfdcokcchdaa
