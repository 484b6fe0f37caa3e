/-
  Layer 23: DescPlays, over its arguments.
-/
import Derived.Test.YtpkhfdcokcchdaaDesM
import Derived.Test.YtpkhfdcokcchdaaFrameI
namespace Go.Proofs.Ytpkhfdcokcchdaa
open Go.RowKit

theorem walk_DescPlays (a0 : Int) (v1 : Value) (_w0 : (Lit.int .i64 a0).wf = true) {w : World} (s1 : SlN 4 w v1) :
    Calls Try.prog 14 #[.int .i64 a0, v1] w fun e w' => e = .returned (.bool true) ∧ Below w.heap.size w w' := by
  rcases s1 with ⟨ao, cap, rfl, hn, hm⟩ | ⟨b, off, n, cap, f, rfl, h0, hc, hm, hb, hx⟩
  · exact (dplays_none a0 ao cap w hn hm).mono fun e w' q => ⟨q.1, q.2.below0⟩
  · exact (dplays_some a0 b off n cap f w hc hm hb hx).mono fun e w' q => ⟨q.1, q.2.below0⟩

end Go.Proofs.Ytpkhfdcokcchdaa
