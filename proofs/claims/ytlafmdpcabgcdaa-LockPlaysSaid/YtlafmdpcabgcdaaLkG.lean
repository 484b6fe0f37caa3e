/-
  Layer 24: the law's equal.
-/
import Derived.Test.YtlafmdpcabgcdaaLkB
import Derived.Shelf.RegionOpenPlain
import Derived.Deep.LoopGhost
namespace Go.Proofs.Ytlafmdpcabgcdaa
open Go.RowKit

/-- A slice of integers, read. -/
def SlZ (w : World) (v : Value) (l : List Int) : Prop := ∃ ao cap, v = .slice ao l.length cap ∧ RdI w ao l ∧ l.length ≤ cap ∧ cap ≤ maxLen ∧ (ao = none → cap = 0)
theorem RdI.gr0 {w w' : World} {ao : Option Addr} {b : List Int} (h : RdI w ao b) (g : Gr [] w w') : RdI w' ao b := h.gr g (fun _ _ _ => by simp)
theorem SlZ.gr0 {w w' : World} {v : Value} {l : List Int} (h : SlZ w v l) (g : Gr [] w w') : SlZ w' v l := by
  obtain ⟨ao, cap, h1, h2, h3⟩ := h
  exact ⟨ao, cap, h1, h2.gr0 g, h3⟩
theorem LkV.slz {w : World} {a : LkA} {v : Value} {l : List Int} (h : LkV w a v l) : SlZ w v l := by
  obtain ⟨ao, cap, h1, h2, h3, h4, h5, _⟩ := h
  exact ⟨ao, cap, h1, h2, h3, h4, h5⟩
set_option maxRecDepth 100000 in
set_option maxHeartbeats 4000000 in
theorem equal_at (v v' : Value) (l l' : List Int) (w : World) (h : SlZ w v l) (h' : SlZ w v' l') : Calls Try.prog 14 #[v, v'] w fun e w' => e = .returned (.bool (decide (l = l'))) ∧ Gr [] w w' := by
  have mixed : Try.prog.follows .mixedOrders = true := by kernel_rfl
  obtain ⟨ao, cap, rfl, hr, hle, hm1, -⟩ := h
  unfold maxLen at hm1
  obtain ⟨ao', cap', rfl, hr', -, -, -⟩ := h'
  by_cases hl : l.length = l'.length
  · obtain ⟨N, hN⟩ : ∃ N, N = l.length := ⟨_, rfl⟩
    rw [← hl, ← hN]
    have hN9 : N ≤ 9223372036854775807 := by omega
    have HN := Lib.hid (And.intro hN (hN.trans hl))
    have HR := Lib.hid (And.intro hr hr')
    clear hl hN hr hr' hle
    go_enter Try.func14, Try.ntmps14
    go_wp2
    go_loopw [13] (fun i wr => ∃ k : Nat, k ≤ N ∧ i = .int .i64 k ∧ Gr [] w wr ∧ ∀ j, j < k → l[j]? = l'[j]?) (fun i _ => N - (intOf i).toNat)
    case atStart => exact ⟨0, by omega, rfl, Gr.refl _ _, fun j hj => absurd hj (by omega)⟩
    case round =>
      obtain ⟨k, hk, rfl, g, hall⟩ := hrel
      have HA := Lib.hid hall
      have HG := Lib.hid g
      clear hall
      by_cases hlt : k < N
      · have ik : (k : Int) < (N : Int) := by omega
        obtain ⟨x, hx⟩ : ∃ x, l[k]? = some x := ⟨_, List.getElem?_eq_getElem (by have := HN.out.1; omega)⟩
        obtain ⟨y, hy⟩ : ∃ y, l'[k]? = some y := ⟨_, List.getElem?_eq_getElem (by have := HN.out.2; omega)⟩
        have HXY := Lib.hid (And.intro hx hy)
        obtain ⟨b1, o1, rfl, hb1, z1⟩ := HR.out.1 k x hx
        obtain ⟨b2, o2, rfl, hb2, z2⟩ := HR.out.2 k y hy
        have c1 : wr.cell? ⟨b1, o1 + k, none⟩ = some (.int .i64 x) := (g.cell0 hb1).trans z1
        have c2 : wr.cell? ⟨b2, o2 + k, none⟩ = some (.int .i64 y) := (g.cell0 hb2).trans z2
        clear hx hy z1 z2 g
        by_cases hxy : x = y
        · subst hxy
          have f1 : (x != x) = false := by simp
          go_wp2
          go_region_o
          go_wp2
          go_roundw
          case rel => exact ⟨k + 1, by omega, by go_num, HG.out.drew, fun j hj => by
            by_cases hjk : j = k
            · subst hjk; rw [HXY.out.1, HXY.out.2]
            · exact HA.out j (by omega)⟩
          case measure => simp [intOf]; omega
        · have f1 : (x != y) = true := by simpa using hxy
          have f2 : (x == y) = false := by simpa using hxy
          have HF := Lib.hid (show decide (l = l') = false from decide_eq_false (fun e => by
            have := HXY.out.1; rw [e, HXY.out.2] at this; exact hxy (Option.some.inj this).symm))
          go_wp2
          go_region_o
          go_wp2
          go_ret
          exact ⟨by rw [HF.out]; rfl, HG.out.drew⟩
      · obtain rfl : k = N := by omega
        have ik : ¬ ((k : Int) < (k : Int)) := by omega
        have HF := Lib.hid (show decide (l = l') = true by
          apply decide_eq_true
          apply List.ext_getElem?
          intro j
          by_cases hj : j < k
          · exact HA.out j hj
          · rw [List.getElem?_eq_none (by have := HN.out.1; omega), List.getElem?_eq_none (by have := HN.out.2; omega)])
        clear g
        go_wp2
        go_ret
        exact ⟨by rw [HF.out]; rfl, HG.out⟩
  · have hE : decide (l = l') = false := decide_eq_false (fun e => hl (by rw [e]))
    have f1 : ((l.length : Int) != (l'.length : Int)) = true := by simp; omega
    have f2 : ((l.length : Int) == (l'.length : Int)) = false := by rw [beq_eq_false_iff_ne]; omega
    rw [hE]
    clear hr hr'
    go_enter Try.func14, Try.ntmps14
    go_wp2_with fail
    go_ret
    exact ⟨rfl, Gr.refl _ _⟩

end Go.Proofs.Ytlafmdpcabgcdaa
