/-
  Layer 18: are two ways the same; the law's example.
-/
import Derived.Test.YtnmenihahgggmaaPaU
namespace Go.Proofs.Ytnmenihahgggmaa
open Go.RowKit Go.Shelf

/-- Are two ways the same. -/
def eqW (a d a' d' : Bool) (L L' : List (List UInt8)) : Bool := decide (a = a') && decide (d = d') && decide (L = L')
theorem eqW_no {a d a' d' : Bool} {L L' : List (List UInt8)} (h : a ≠ a' ∨ d ≠ d' ∨ L ≠ L') : eqW a d a' d' L L' = false := by
  unfold eqW
  rcases h with h | h | h
  · rw [decide_eq_false h]; rfl
  · rw [decide_eq_false h]; simp
  · rw [decide_eq_false h]; simp
theorem eqW_self (a d : Bool) (L : List (List UInt8)) : eqW a d a d L L = true := by simp [eqW]

set_option maxRecDepth 100000 in
set_option maxHeartbeats 4000000 in
theorem same_at (a d a' d' : Bool) (L L' : List (List UInt8)) (ao ao' : Option Addr) (cap cap' : Nat) (w : World) (h : SlS w (.slice ao L.length cap) L) (h' : SlS w (.slice ao' L'.length cap') L') (hN : L.length ≤ 1000) (_ : L'.length ≤ 1000) :
    Calls Try.prog 10 #[.agg #[.bool a, .slice ao L.length cap, .bool d], .agg #[.bool a', .slice ao' L'.length cap', .bool d']] w fun e w' => e = .returned (.bool (eqW a d a' d' L L')) ∧ Gr [] w w' := by
  have mixed : Try.prog.follows .mixedOrders = true := by kernel_rfl
  have HH := Lib.hid ((Holds.new w #[.bool a, .slice ao L.length cap, .bool d] 24).alloc (Obj.cells #[.bool a', .slice ao' L'.length cap', .bool d'] 28))
  have hx := Holds.new (w.alloc (Obj.cells #[.bool a, .slice ao L.length cap, .bool d] 24)) #[.bool a', .slice ao' L'.length cap', .bool d'] 28
  rw [World.size_alloc] at hx
  have HX := Lib.hid hx
  clear hx
  have HG := Lib.hid (((Gr.refl [] w).alloc (Obj.cells #[.bool a, .slice ao L.length cap, .bool d] 24)).alloc (Obj.cells #[.bool a', .slice ao' L'.length cap', .bool d'] 28))
  have HS := Lib.hid (h.gr0 HG.out)
  have HS' := Lib.hid (h'.gr0 HG.out)
  have h0 := HH.out.cell 0; have h1 := HH.out.cell 1; have h2 := HH.out.cell 2
  have g0 := HX.out.cell 0; have g1 := HX.out.cell 1; have g2 := HX.out.cell 2
  clear h h'
  by_cases ha : a = a'
  · by_cases hd : d = d'
    · by_cases hl : L.length = L'.length
      · subst ha
        subst hd
        obtain ⟨N, hNN⟩ : ∃ N, N = L.length := ⟨_, rfl⟩
        rw [← hl] at HX g0 g1 g2 HS' HG HH h0 h1 h2 HS ⊢
        rw [← hNN] at HX g0 g1 g2 HS' HG HH h0 h1 h2 HS hN ⊢
        have HNN := Lib.hid (And.intro hNN (hNN.trans hl))
        clear hNN hl
        have nd : (d != d) = false := by simp
        have na : (a != a) = false := by simp
        obtain ⟨W0, hW0⟩ : ∃ W0, W0 = ((w.alloc (Obj.cells #[.bool a, .slice ao N cap, .bool d] 24)).alloc (Obj.cells #[.bool a, .slice ao' N cap', .bool d] 28)) := ⟨_, rfl⟩
        go_enter Try.func10, Try.ntmps10
        go_wp2
        rw [← hW0] at HX g0 g1 g2 HS' HG HH h0 h1 h2 HS ⊢
        clear hW0
        go_loopw [30] (fun i wr => ∃ k : Nat, k ≤ N ∧ i = .int .i64 k ∧ Gr [] W0 wr ∧ ∀ j, j < k → L[j]? = L'[j]?) (fun i _ => N - (intOf i).toNat)
        case atStart => exact ⟨0, by omega, rfl, Gr.refl _ _, fun j hj => absurd hj (by omega)⟩
        case round =>
          obtain ⟨k, hk, rfl, g, hall⟩ := hrel
          have HA := Lib.hid hall
          clear hall
          by_cases hlt : k < N
          · have ik : (k : Int) < (N : Int) := by omega
            obtain ⟨x, hx⟩ : ∃ x, L[k]? = some x := ⟨_, List.getElem?_eq_getElem (by have := HNN.out.1; omega)⟩
            obtain ⟨y, hy⟩ : ∃ y, L'[k]? = some y := ⟨_, List.getElem?_eq_getElem (by have := HNN.out.2; omega)⟩
            have HXY := Lib.hid (And.intro hx hy)
            obtain ⟨b1, o1, rfl, hb1⟩ := HS.out.addr' hx
            obtain ⟨b2, o2, rfl, hb2⟩ := HS'.out.addr' hy
            have c1 : wr.cell? ⟨b1, o1 + k, none⟩ = some (.string (bsL x)) := ((HS.out.gr0 g).some.2.1.cell hx).1
            have c2 : wr.cell? ⟨b2, o2 + k, none⟩ = some (.string (bsL y)) := ((HS'.out.gr0 g).some.2.1.cell hy).1
            have q0 := (HH.out.gr0 g).cell 1
            have q1 := (HX.out.gr0 g).cell 1
            have l1 := bsL_list x
            have l2 := bsL_list y
            have HG2 := Lib.hid g
            clear hx hy g h0 h1 h2 g0 g1 g2
            by_cases hxy : x = y
            · subst hxy
              have f1 : (x != x) = false := by simp
              have f2 : (x == x) = true := by simp
              go_wp2
              go_region_o
              go_wp2
              go_roundw
              case rel => exact ⟨k + 1, by omega, by go_num, HG2.out.drew, fun j hj => by
                by_cases hjk : j = k
                · subst hjk; rw [HXY.out.1, HXY.out.2]
                · exact HA.out j (by omega)⟩
              case measure => simp [intOf]; omega
            · have f1 : (x != y) = true := by simpa using hxy
              have f2 : (x == y) = false := by simpa using hxy
              have HF := Lib.hid (show eqW a d a d L L' = false from eqW_no (.inr (.inr (fun e => by
                have := HXY.out.1; rw [e, HXY.out.2] at this; exact hxy (Option.some.inj this).symm))))
              go_wp2
              go_region_o
              go_wp2
              go_ret
              exact ⟨by rw [HF.out]; rfl, HG.out.next0 HG2.out.drew⟩
          · obtain rfl : k = N := by omega
            have ik : ¬ ((k : Int) < (k : Int)) := by omega
            have HF := Lib.hid (show eqW a d a d L L' = true by
              have : L = L' := by
                apply List.ext_getElem?
                intro j
                by_cases hj : j < k
                · exact HA.out j hj
                · rw [List.getElem?_eq_none (by have := HNN.out.1; omega), List.getElem?_eq_none (by have := HNN.out.2; omega)]
              rw [this, eqW_self])
            have HG2 := Lib.hid g
            clear g
            go_wp2
            go_ret
            exact ⟨by rw [HF.out]; rfl, HG.out.next0 HG2.out⟩
      · have HF := Lib.hid (eqW_no (a := a) (d := d) (a' := a') (d' := d') (L := L) (L' := L') (.inr (.inr (fun e => hl (by rw [e])))))
        have f1 : ((L.length : Int) != (L'.length : Int)) = true := by simp; omega
        subst ha
        subst hd
        have nd : (d != d) = false := by simp
        have na : (a != a) = false := by simp
        rw [HF.out]
        go_enter Try.func10, Try.ntmps10
        go_wp2
        go_ret
        exact ⟨rfl, HG.out⟩
    · have HF := Lib.hid (eqW_no (a := a) (d := d) (a' := a') (d' := d') (L := L) (L' := L') (.inr (.inl hd)))
      subst ha
      have nd : (d != d') = true := by simpa using hd
      have na : (a != a) = false := by simp
      rw [HF.out]
      go_enter Try.func10, Try.ntmps10
      go_wp2
      go_ret
      exact ⟨rfl, HG.out⟩
  · have HF := Lib.hid (eqW_no (a := a) (d := d) (a' := a') (d' := d') (L := L) (L' := L') (.inl ha))
    have na : (a != a') = true := by simpa using ha
    rw [HF.out]
    go_enter Try.func10, Try.ntmps10
    go_wp2
    go_ret
    exact ⟨rfl, HG.out⟩

end Go.Proofs.Ytnmenihahgggmaa
