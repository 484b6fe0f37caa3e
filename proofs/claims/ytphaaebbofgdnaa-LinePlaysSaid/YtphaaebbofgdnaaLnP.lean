/-
  LinePlays: no act; the walk for its row.
-/
import Derived.Test.YtphaaebbofgdnaaLnN
namespace Go.Proofs.Ytphaaebbofgdnaa
open Go.ChangeShapes Go.WideShapes Go.ChangeAt Go.RowKit

set_option maxRecDepth 100000 in
set_option maxHeartbeats 4000000 in
theorem lplays_none (ao : Option Addr) (cap : Nat) (w : World) (hn0 : ao = none → cap = 0) (hmax : cap ≤ maxLen) :
    Calls Try.prog 7 #[.slice ao 0 cap] w fun e w' => e = .returned (.bool true) ∧ Gr [] w w' := by
  have hmn := minIsR Try.prog 0 0 40 40 rfl rfl
  have HN := Lib.hid hn0
  unfold maxLen at hmax
  clear hn0
  cases ao with
  | none =>
    obtain rfl := HN.out rfl
    go_enter Try.func7, Try.ntmps7
    go_wp2_with fail
    refine (pmnew_yes 3 _ (by omega) (by omega)).mono ?_
    rintro e w1 ⟨a, rfl, d1, hlo, g1⟩
    clear hlo d1
    go_wp2_with fail
    refine (rnew_any 3 _ (by omega) (by omega)).mono ?_
    rintro e w2 ⟨r, rfl, r2, hro, g2⟩
    have g2 := g1.trans g2
    clear g1 r2 hro
    go_wp2_with fail
    refine (wakes04 _).mono ?_
    rintro e w3 ⟨rfl, q3⟩
    have HD := Lib.hid (g2.trans q3)
    clear g2 q3
    go_wp2_with fail
    refine wp_loop_rounds 1 ?_
    rw [rounds_succ]
    go_wp2_with fail
    go_ret
    exact ⟨rfl, HD.out⟩
  | some ad =>
    clear HN
    go_enter Try.func7, Try.ntmps7
    go_wp2_with fail
    refine (pmnew_yes 3 _ (by omega) (by omega)).mono ?_
    rintro e w1 ⟨a, rfl, d1, hlo, g1⟩
    clear hlo d1
    go_wp2_with fail
    refine (rnew_any 3 _ (by omega) (by omega)).mono ?_
    rintro e w2 ⟨r, rfl, r2, hro, g2⟩
    have g2 := g1.trans g2
    clear g1 r2 hro
    go_wp2_with fail
    refine (wakes04 _).mono ?_
    rintro e w3 ⟨rfl, q3⟩
    have HD := Lib.hid (g2.trans q3)
    clear g2 q3
    go_wp2_with fail
    refine wp_loop_rounds 1 ?_
    rw [rounds_succ]
    go_wp2_with fail
    go_ret
    exact ⟨rfl, HD.out⟩
theorem walk_LinePlays (v0 : Value) {w : World} (s0 : SlL w v0) :
    Calls Try.prog 7 #[v0] w fun e w' => e = .returned (.bool true) ∧ Below w.heap.size w w' := by
  rcases s0 with ⟨ao, cap, rfl, hn, hm⟩ | ⟨b, off, n, cap, xs, rfl, h1, h2, h3, h4, h5⟩
  · exact (lplays_none ao cap w hn hm).mono fun _ _ q => ⟨q.1, q.2.below0⟩
  · exact (lplays_some b off n cap xs w h1 h2 h3 h4 h5).mono fun _ _ q => ⟨q.1, q.2.below0⟩

end Go.Proofs.Ytphaaebbofgdnaa
