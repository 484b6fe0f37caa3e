/-
  HpAb: LnG, Frame, HtE, HtL, FlZb.
-/
import Derived.Test.YtefmbchebobceaaGreatHkAa
import Derived.Test.YtefmbchebobceaaGreatHkAb
import Derived.Test.YtefmbchebobceaaGreatHkAc
import Derived.Test.YtefmbchebobceaaGreatHkAd
import Derived.Test.YtefmbchebobceaaGreatHkAe
import Derived.Test.YtefmbchebobceaaGreatHkAf
import Derived.Test.YtefmbchebobceaaGreatHkAg
import Derived.Test.YtefmbchebobceaaGreatHkAh
import Derived.Test.YtefmbchebobceaaGreatHkAi
import Derived.Test.YtefmbchebobceaaGreatHkAj
import Derived.Test.YtefmbchebobceaaGreatHkAk
import Derived.Test.YtefmbchebobceaaGreatHkAl
import Derived.Test.YtefmbchebobceaaGreatHkAm
import Derived.Test.YtefmbchebobceaaGreatHkAn
import Derived.Test.YtefmbchebobceaaGreatHkAo
import Derived.Test.YtefmbchebobceaaGreatHkAp
import Derived.Test.YtefmbchebobceaaGreatHkAq
import Derived.Test.YtefmbchebobceaaGreatHkAr
import Derived.Test.YtefmbchebobceaaGreatHkAs
import Derived.Test.YtefmbchebobceaaGreatHkAt
import Derived.Test.YtefmbchebobceaaGreatHkAu
import Derived.Test.YtefmbchebobceaaGreatHkAv
import Derived.Test.YtefmbchebobceaaGreatHkAw
import Derived.Test.YtefmbchebobceaaGreatHkAx
import Derived.Test.YtefmbchebobceaaGreatHkAy
import Derived.Test.YtefmbchebobceaaGreatHkAz
import Derived.Test.YtefmbchebobceaaGreatHkBa
import Derived.Test.YtefmbchebobceaaGreatHkBb
import Derived.Test.YtefmbchebobceaaGreatHkBc
import Derived.Test.YtefmbchebobceaaGreatHkBd
import Derived.Test.YtefmbchebobceaaGreatHkBe
import Derived.Test.YtefmbchebobceaaGreatHkBf
import Derived.Test.YtefmbchebobceaaGreatHkBg
import Derived.Test.YtefmbchebobceaaGreatHkBh
import Derived.Test.YtefmbchebobceaaGreatHkBi
import Derived.Test.YtefmbchebobceaaGreatHkBj
import Derived.Test.YtefmbchebobceaaGreatHkBk
import Derived.Test.YtefmbchebobceaaGreatHpAa
import Derived.Test.YtefmbchebobceaaGreatRows
import Derived.WalkKit
import Derived.Handy
import Derived.Lib.Hide
import Derived.Lib.AppendStr
import Derived.Deep.QuietTactic
import Derived.BigQuiet
import Derived.KernelRfl
import Derived.Shelf.Strings.Repeat
import Derived.Ground.NamesProg
import Derived.Lib.Agree
import Derived.Deep.MidRow
import Derived.ProofKit
import Derived.OpenShut
import Derived.SizedLaws
import Derived.StillTailTactics
import Derived.IntWalk
import Derived.Maps.RangeWalk
import Derived.Maps.OwnSet
import Derived.Deep.RegionHeld3
import Derived.Deep.CutBlock
import Derived.ChangeSlices
import Derived.Deep.Slices
import Derived.Deep.Grids
import Derived.Deep.LoopGhost
import Derived.Deep.RegionLaw
import Derived.Deep.AppendLies
import Derived.BigRegion

set_option linter.unusedVariables false

/-
  Layer 4: Mixed, the reference's Mixed.
-/
namespace Go.Proofs.YtefmbchebobceaaGreat
open Go.RowKit
set_option linter.unusedVariables false

theorem words_gen (s : ByteArray) (w : World) (hs : s.size ≤ maxLen) : Calls Tryz.prog 82 #[.string s] w fun e w' => ∃ (n0 n1 n2 n3 n4 n5 n6 n7 : Nat) (ev : Int), e = .returned (.tuple #[.agg #[.int .u64 (n0 : Int), .int .u64 (n1 : Int), .int .u64 (n2 : Int), .int .u64 (n3 : Int), .int .u64 (n4 : Int), .int .u64 (n5 : Int), .int .u64 (n6 : Int), .int .u64 (n7 : Int)], .int .i64 ev]) ∧
    ((ev = 0 ∧ s.size = 64 ∧ ∀ k, k < 8 → [n0, n1, n2, n3, n4, n5, n6, n7][k]? = some (wdL s.data.toList k)) ∨ (ev = 2 ∧ s.size ≠ 64)) ∧ Gr [] w w' := by
  by_cases h : s.size = 64
  · refine (words_yes s w h).mono ?_
    rintro e w' ⟨rfl, g⟩
    refine ⟨_, _, _, _, _, _, _, _, _, rfl, .inl ⟨rfl, h, fun k hk => ?_⟩, .ofBelow g⟩
    rcases (show k = 0 ∨ k = 1 ∨ k = 2 ∨ k = 3 ∨ k = 4 ∨ k = 5 ∨ k = 6 ∨ k = 7 by omega) with rfl | rfl | rfl | rfl | rfl | rfl | rfl | rfl <;> rfl
  · refine (words_no s w hs h).mono ?_
    rintro e w' ⟨rfl, g⟩
    exact ⟨0, 0, 0, 0, 0, 0, 0, 0, 2, rfl, .inr ⟨rfl, h⟩, .ofBelow g⟩
theorem arr8_at (n0 n1 n2 n3 n4 n5 n6 n7 k n : Nat) (h : [n0, n1, n2, n3, n4, n5, n6, n7][k]? = some n) : (#[Value.int .u64 (n0 : Int), Value.int .u64 (n1 : Int), Value.int .u64 (n2 : Int), Value.int .u64 (n3 : Int), Value.int .u64 (n4 : Int), Value.int .u64 (n5 : Int), Value.int .u64 (n6 : Int), Value.int .u64 (n7 : Int)] : Array Value)[k]? = some (.int .u64 (n : Int)) := by
  have hk : k < 8 := by have := (List.getElem?_eq_some_iff.1 h).1; simpa using this
  rcases (show k = 0 ∨ k = 1 ∨ k = 2 ∨ k = 3 ∨ k = 4 ∨ k = 5 ∨ k = 6 ∨ k = 7 by omega) with rfl | rfl | rfl | rfl | rfl | rfl | rfl | rfl <;> (simp at h; subst h; rfl)

set_option maxRecDepth 100000 in
set_option maxHeartbeats 4000000 in
theorem mixed_any (s t u : ByteArray) (w : World) (hs : s.size ≤ maxLen) (ht : t.size ≤ maxLen) (hu : u.size ≤ maxLen) :
    Calls Tryz.prog 42 #[.string s, .string t, .string u] w fun e w' => e = .returned (.bool (mixB s t u)) ∧ Gr [] w w' := by
  have HS := Lib.hid (fun W => words_gen s W hs)
  have HT := Lib.hid (fun W => words_gen t W ht)
  have HU := Lib.hid (fun W => words_gen u W hu)
  clear hs ht hu
  go_enter Tryz.func42, Tryz.ntmps42
  go_wp2_with fail
  refine (HS.out _).mono ?_
  rintro e w1 ⟨a0, a1, a2, a3, a4, a5, a6, a7, ea, rfl, ha, g1⟩
  have XA := Lib.hid (Holds.new w1 #[Value.int .u64 (a0 : Int), Value.int .u64 (a1 : Int), Value.int .u64 (a2 : Int), Value.int .u64 (a3 : Int), Value.int .u64 (a4 : Int), Value.int .u64 (a5 : Int), Value.int .u64 (a6 : Int), Value.int .u64 (a7 : Int)] 148)
  have GA := Lib.hid (g1.alloc (Obj.cells #[Value.int .u64 (a0 : Int), Value.int .u64 (a1 : Int), Value.int .u64 (a2 : Int), Value.int .u64 (a3 : Int), Value.int .u64 (a4 : Int), Value.int .u64 (a5 : Int), Value.int .u64 (a6 : Int), Value.int .u64 (a7 : Int)] 148))
  have HA := Lib.hid ha
  clear g1 ha
  go_wp2_with fail
  generalize w1.alloc (Obj.cells #[Value.int .u64 (a0 : Int), Value.int .u64 (a1 : Int), Value.int .u64 (a2 : Int), Value.int .u64 (a3 : Int), Value.int .u64 (a4 : Int), Value.int .u64 (a5 : Int), Value.int .u64 (a6 : Int), Value.int .u64 (a7 : Int)] 148) = wa at *
  generalize w1.heap.size = ba at *
  refine (HT.out _).mono ?_
  rintro e w2 ⟨b0, b1, b2, b3, b4, b5, b6, b7, eb, rfl, hb, g2⟩
  have XB := Lib.hid (Holds.new w2 #[Value.int .u64 (b0 : Int), Value.int .u64 (b1 : Int), Value.int .u64 (b2 : Int), Value.int .u64 (b3 : Int), Value.int .u64 (b4 : Int), Value.int .u64 (b5 : Int), Value.int .u64 (b6 : Int), Value.int .u64 (b7 : Int)] 148)
  have GB := Lib.hid (g2.alloc (Obj.cells #[Value.int .u64 (b0 : Int), Value.int .u64 (b1 : Int), Value.int .u64 (b2 : Int), Value.int .u64 (b3 : Int), Value.int .u64 (b4 : Int), Value.int .u64 (b5 : Int), Value.int .u64 (b6 : Int), Value.int .u64 (b7 : Int)] 148))
  have HB := Lib.hid hb
  clear g2 hb
  go_wp2_with fail
  generalize w2.alloc (Obj.cells #[Value.int .u64 (b0 : Int), Value.int .u64 (b1 : Int), Value.int .u64 (b2 : Int), Value.int .u64 (b3 : Int), Value.int .u64 (b4 : Int), Value.int .u64 (b5 : Int), Value.int .u64 (b6 : Int), Value.int .u64 (b7 : Int)] 148) = wb at *
  generalize w2.heap.size = bb at *
  refine (HU.out _).mono ?_
  rintro e w3 ⟨c0, c1, c2, c3, c4, c5, c6, c7, ec, rfl, hc, g3⟩
  have XC := Holds.new w3 #[Value.int .u64 (c0 : Int), Value.int .u64 (c1 : Int), Value.int .u64 (c2 : Int), Value.int .u64 (c3 : Int), Value.int .u64 (c4 : Int), Value.int .u64 (c5 : Int), Value.int .u64 (c6 : Int), Value.int .u64 (c7 : Int)] 148
  have GC := Lib.hid (g3.alloc (Obj.cells #[Value.int .u64 (c0 : Int), Value.int .u64 (c1 : Int), Value.int .u64 (c2 : Int), Value.int .u64 (c3 : Int), Value.int .u64 (c4 : Int), Value.int .u64 (c5 : Int), Value.int .u64 (c6 : Int), Value.int .u64 (c7 : Int)] 148))
  obtain ⟨k0, k1, k2, k3, k4, k5, k6, k7⟩ := XC.eight
  have HCC := Lib.hid hc
  clear g3 hc XC
  have HG := Lib.hid ((GA.out.trans GB.out).trans GC.out)
  rcases HA.out with ⟨rfl, sa, la⟩ | ⟨rfl, sa⟩
  · have HLA := Lib.hid (And.intro sa la)
    clear sa la HA
    rcases HB.out with ⟨rfl, sb, lb⟩ | ⟨rfl, sb⟩
    · have HLB := Lib.hid (And.intro sb lb)
      clear sb lb HB
      rcases HCC.out with ⟨rfl, sc, lc⟩ | ⟨rfl, sc⟩
      · have HLC := Lib.hid (And.intro sc lc)
        have HE := Lib.hid (show mixB s t u = (List.range 8).all fun k => wdL u.data.toList k == wdL s.data.toList k || wdL u.data.toList k == wdL t.data.toList k by unfold mixB; rw [decide_eq_true ⟨HLA.out.1, HLB.out.1, sc⟩, Bool.true_and])
        clear sc lc HCC
        go_wp2_with fail
        clear k0 k1 k2 k3 k4 k5 k6 k7
        have XA3 := Lib.hid ((XA.out.gr0 GB.out).gr0 GC.out)
        have XB3 := Lib.hid (XB.out.gr0 GC.out)
        generalize w3.alloc (Obj.cells #[Value.int .u64 (c0 : Int), Value.int .u64 (c1 : Int), Value.int .u64 (c2 : Int), Value.int .u64 (c3 : Int), Value.int .u64 (c4 : Int), Value.int .u64 (c5 : Int), Value.int .u64 (c6 : Int), Value.int .u64 (c7 : Int)] 148) = wc at *
        go_loopw [41] (fun z wr => ∃ k : Nat, k ≤ 8 ∧ z = .int .i64 (k : Int) ∧ (∀ j, j < k → (wdL u.data.toList j == wdL s.data.toList j || wdL u.data.toList j == wdL t.data.toList j) = true) ∧ wc = wr) (fun z _ => 8 - (intOf z).toNat)
        case atStart => exact ⟨0, by omega, rfl, fun j hj => by omega, rfl⟩
        case round =>
          obtain ⟨k, hk, rfl, hall, rfl⟩ := hrel
          have HALL := Lib.hid hall
          clear hall
          by_cases hlt : k < 8
          · have hd : decide ((k : Int) < 8) = true := by simp; omega
            obtain ⟨G, hG⟩ : ∃ G, wdL u.data.toList k = G := ⟨_, rfl⟩
            obtain ⟨A, hA⟩ : ∃ A, wdL s.data.toList k = A := ⟨_, rfl⟩
            obtain ⟨B, hB⟩ : ∃ B, wdL t.data.toList k = B := ⟨_, rfl⟩
            have hix := index8 c0 c1 c2 c3 c4 c5 c6 c7 k G (by rw [← hG]; exact HLC.out.2 k hlt)
            have e1 : wc.cell? ⟨ba, k, none⟩ = some (.int .u64 (A : Int)) := by rw [XA3.out.cell]; exact arr8_at a0 a1 a2 a3 a4 a5 a6 a7 k A (by rw [← hA]; exact HLA.out.2 k hlt)
            have e2 : wc.cell? ⟨bb, k, none⟩ = some (.int .u64 (B : Int)) := by rw [XB3.out.cell]; exact arr8_at b0 b1 b2 b3 b4 b5 b6 b7 k B (by rw [← hB]; exact HLB.out.2 k hlt)
            have hk0 : (0 : Int) ≤ (k : Int) := by omega
            have hk8 : (k : Int) < 8 := by omega
            by_cases hGA : G = A
            · have HN := Lib.hid (show ∀ j, j < k + 1 → (wdL u.data.toList j == wdL s.data.toList j || wdL u.data.toList j == wdL t.data.toList j) = true from fun j hj => by
                by_cases c : j = k
                · subst c; rw [hG, hA, hGA]; simp
                · exact HALL.out j (by omega))
              clear hG hA hB
              subst hGA
              go_wp2_with fail
              go_roundw
              case rel => exact ⟨k + 1, by omega, by go_num, HN.out, by first | rfl | trivial⟩
              case measure => simp [intOf]; omega
            · have d1 : ((G : Int) != (A : Int)) = true := by simp; omega
              have d2 : ((G : Int) == (A : Int)) = false := by simp; omega
              by_cases hGB : G = B
              · have HN := Lib.hid (show ∀ j, j < k + 1 → (wdL u.data.toList j == wdL s.data.toList j || wdL u.data.toList j == wdL t.data.toList j) = true from fun j hj => by
                  by_cases c : j = k
                  · subst c; rw [hG, hB, hGB]; simp
                  · exact HALL.out j (by omega))
                clear hG hA hB hGA
                subst hGB
                go_wp2_with fail
                go_roundw
                case rel => exact ⟨k + 1, by omega, by go_num, HN.out, by first | rfl | trivial⟩
                case measure => simp [intOf]; omega
              · have d3 : ((G : Int) != (B : Int)) = true := by simp; omega
                have d4 : ((G : Int) == (B : Int)) = false := by simp; omega
                have HN := Lib.hid (show ((List.range 8).all fun k => wdL u.data.toList k == wdL s.data.toList k || wdL u.data.toList k == wdL t.data.toList k) = false by
                  rw [List.all_eq_false]
                  exact ⟨k, List.mem_range.2 hlt, by rw [hG, hA, hB]; simp [hGA, hGB]⟩)
                clear hG hA hB hGA hGB
                go_wp2_with fail
                go_ret
                rw [HE.out, HN.out]
                exact ⟨rfl, HG.out⟩
          · obtain rfl : k = 8 := by omega
            have HN := Lib.hid (show ((List.range 8).all fun k => wdL u.data.toList k == wdL s.data.toList k || wdL u.data.toList k == wdL t.data.toList k) = true by
              rw [List.all_eq_true]
              intro j hj
              rw [List.mem_range] at hj
              exact HALL.out j hj)
            rw [show ((8 : Nat) : Int) = 8 from rfl]
            go_wp2_with fail
            go_ret
            rw [HE.out, HN.out]
            exact ⟨rfl, HG.out⟩
      · have HE := Lib.hid (show mixB s t u = false by unfold mixB; rw [decide_eq_false (fun q => sc q.2.2)]; rfl)
        clear sc HCC
        go_wp2_with fail
        go_ret
        rw [HE.out]
        exact ⟨rfl, HG.out⟩
    · have HE := Lib.hid (show mixB s t u = false by unfold mixB; rw [decide_eq_false (fun q => sb q.2.1)]; rfl)
      clear sb HB
      go_wp2_with fail
      go_ret
      rw [HE.out]
      exact ⟨rfl, HG.out⟩
  · have HE := Lib.hid (show mixB s t u = false by unfold mixB; rw [decide_eq_false (fun q => sa q.1)]; rfl)
    clear sa HA
    go_wp2_with fail
    go_ret
    rw [HE.out]
    exact ⟨rfl, HG.out⟩

/-! ### The reference's -/
end Go.Proofs.YtefmbchebobceaaGreat

/-
  The frame of a law's row, the part that is the same for all: arrays of integers opened; facts on the program.
-/
namespace Go.Proofs.YtefmbchebobceaaGreat
open Go.ChangeShapes Go.WideShapes Go.ChangeAt Go.RowKit

theorem okWide_arr {P : Program} {w : World} {r : Reach} {base : Nat} {t : TypeId} {v : Value} {n : Nat} {e : TypeId} (ht : P.underlying t = some (.array n e)) (h : Value.okWide P w r base t v) : ∃ cs, v = .agg cs ∧ cs.size = P.cellsOf t := by
  simp only [Value.okWide, ht] at h
  obtain ⟨cs, h1, h2, _⟩ := h
  exact ⟨cs, h1, h2⟩

/-- An array of integers by value, opened. -/
theorem open_ints_array {H : Type} {enc : TypeId × Value → H} {P : Program} {w : World} {b0 base : Nat} {spare : Nat → Bool} {held : Bool} {t e : TypeId} {n : Nat} {k : IntKind} {v : Value} {d : DataW H} {p : List MemPlace}
    (ht : P.underlying t = some (.array n e)) (he : P.underlying e = some (.int k)) (hc : P.cellsOf e = 1) (hn : P.cellsOf t = n)
    (hv : Value.okWide P w .any b0 t v) (h : DataW.Trod enc P w base spare held t v d p) :
    ∃ xs : List Int, v = .agg (xs.map (Value.int k)).toArray ∧ xs.length = n ∧ ∀ x ∈ xs, (Lit.int k x).wf = true := by
  obtain ⟨cs, rfl, hs⟩ := okWide_arr ht hv
  obtain ⟨fuel, hf⟩ := h
  obtain ⟨ys, m, _, _, hl, hy, hi⟩ := DataW.trod_array ht hf
  have hlen : cs.toList.length = n := by simpa [hn] using hs
  have key : ∀ i (h : i < cs.toList.length), ∃ x, cs.toList[i] = .int k x ∧ (Lit.int k x).wf = true := by
    intro i hlt
    have h1 := hi i (by omega)
    rw [hc, Nat.mul_one, List.getElem?_eq_getElem (by omega)] at h1
    obtain ⟨x, hx, _, hw⟩ := DataW.trod_int he h1
    refine ⟨x, ?_, hw⟩
    have h2 : (List.take 1 (List.drop i cs.toList))[0]? = some (Value.int k x) := by
      have : List.take 1 (List.drop i cs.toList) = [Value.int k x] := hx
      rw [this]; rfl
    rw [List.getElem?_take_of_lt (by omega), List.getElem?_drop, Nat.add_zero, List.getElem?_eq_getElem hlt] at h2
    exact Option.some.inj h2
  refine ⟨cs.toList.map fun c => match c with | .int _ x => x | _ => 0, ?_, by simpa using hlen, ?_⟩
  · have e1 : (cs.toList.map fun c => match c with | .int _ x => x | _ => 0).map (Value.int k) = cs.toList := by
      apply List.ext_getElem (by simp)
      intro i h1 h2
      obtain ⟨x, hx, _⟩ := key i h2
      simp only [List.getElem_map, hx]
    rw [e1]
  · intro x hx
    obtain ⟨c, hc1, hc2⟩ := List.mem_map.1 hx
    obtain ⟨i, hi1, hi2⟩ := List.getElem_of_mem hc1
    obtain ⟨y, hy1, hy2⟩ := key i hi1
    rw [← hc2, ← hi2, hy1]
    exact hy2

end Go.Proofs.YtefmbchebobceaaGreat

/-
  Layer 10: pages at work on a calm device, no line bad: find, has, Len, Frame, Heat, Moved, Read, spot.
-/
namespace Go.Proofs.YtefmbchebobceaaGreat
open Go.RowKit
set_option linter.unusedVariables false

section
variable {C : CfgZ}
end
section
variable {w w' : World} {X : HtA} {A : FlA} {a : DevA} {C : CfgZ} {F : Nat → Nat → Nat} {V : FlV} {c : Nat → Nat} {N lim : Nat} {S : HtS}
theorem hfind_out (h : HtIs w X A a C F V c N lim S) (g k : Int) (ho : g < 0 ∨ (pgC C : Int) ≤ g ∨ k < 0 ∨ 8 ≤ k) : Calls Tryz.prog 65 #[.pointer (some ⟨X.pb, 0, none⟩), .int .i64 g, .int .i64 k] w fun e w' => e = .returned (.tuple #[.int .i64 0, .int .i64 3]) ∧ w' = w := by
  have HH := Lib.hid (hhas_any h g)
  clear h
  by_cases hg : 0 ≤ g ∧ g < (pgC C : Int)
  · rw [decide_eq_true hg] at HH
    by_cases hk : k < 0
    · clear ho hg
      go_enter Tryz.func65, Tryz.ntmps65
      go_wp2_with fail
      refine HH.out.mono ?_
      rintro e w2 ⟨rfl, rfl⟩
      go_wp2_with fail
      go_ret2
      exact ⟨rfl, rfl⟩
    · have hk8 : 8 ≤ k := by omega
      clear ho hg
      go_enter Tryz.func65, Tryz.ntmps65
      go_wp2_with fail
      refine HH.out.mono ?_
      rintro e w2 ⟨rfl, rfl⟩
      go_wp2_with fail
      go_ret2
      exact ⟨rfl, rfl⟩
  · rw [decide_eq_false hg] at HH
    clear ho hg
    go_enter Tryz.func65, Tryz.ntmps65
    go_wp2_with fail
    refine HH.out.mono ?_
    rintro e w2 ⟨rfl, rfl⟩
    go_wp2_with fail
    go_ret2
    exact ⟨rfl, rfl⟩
end
end Go.Proofs.YtefmbchebobceaaGreat

/-
  Layer 10: Write; pages told by what they read.
-/
namespace Go.Proofs.YtefmbchebobceaaGreat
open Go.RowKit
set_option linter.unusedVariables false

section
variable {w w' : World} {X : HtA} {A : FlA} {a : DevA} {C : CfgZ} {F F' : Nat → Nat → Nat} {V V' : FlV} {c c' : Nat → Nat} {N N' lim : Nat} {S : HtS}
theorem hchange_out {v : Value} (h : HtIs w X A a C F V c N lim S) (g k : Int) (ho : g < 0 ∨ (pgC C : Int) ≤ g ∨ k < 0 ∨ 8 ≤ k) :
    Calls Tryz.prog 58 #[.pointer (some ⟨X.pb, 0, none⟩), .int .i64 g, .int .i64 k, v] w fun e w' => e = .returned (.int .i64 3) ∧ w' = w := by
  have HF := Lib.hid (hfind_out h g k ho)
  clear h ho
  go_enter Tryz.func58, Tryz.ntmps58
  go_wp2_with fail
  refine HF.out.mono ?_
  rintro e w2 ⟨rfl, rfl⟩
  go_wp2_with fail
  go_ret
  exact ⟨rfl, rfl⟩
theorem hwrite_out (h : HtIs w X A a C F V c N lim S) (g k : Int) (ho : g < 0 ∨ (pgC C : Int) ≤ g ∨ k < 0 ∨ 8 ≤ k) (s : ByteArray) (hs : s.size = 64) :
    Calls Tryz.prog 20 #[.pointer (some ⟨X.pb, 0, none⟩), .int .i64 g, .int .i64 k, .string s] w fun e w' => e = .returned (.int .i64 3) ∧ Gr [] w w' := by
  have hs1 : ((s.size : Int) != 64) = false := by rw [hs]; rfl
  have hs2 : (s.size != 64) = false := by rw [hs]; rfl
  have gb := ((Gr.refl [] w).alloc (Obj.cells #[.pointer (some ⟨X.pb, 0, none⟩)] 42)).alloc (Obj.cells #[.string s] 9)
  have h1 := (Holds.new w #[.pointer (some ⟨X.pb, 0, none⟩)] 42).alloc (Obj.cells #[.string s] 9)
  have h2 := Holds.new (w.alloc (Obj.cells #[.pointer (some ⟨X.pb, 0, none⟩)] 42)) #[.string s] 9
  have hsz : (w.alloc (Obj.cells #[.pointer (some ⟨X.pb, 0, none⟩)] 42)).heap.size = w.heap.size + 1 := World.size_alloc _ _
  rw [hsz] at h2
  have HC := Lib.hid (fun v => hchange_out (v := v) (h.gr0 gb) g k ho)
  have c0 := h1.cell 0
  have c1 := h2.cell 0
  have HG := Lib.hid gb
  clear h ho hs gb h1 h2 hsz
  go_enter Tryz.func20, Tryz.ntmps20
  go_upto_region 1 with fail
  generalize ((w.alloc (Obj.cells #[.pointer (some ⟨X.pb, 0, none⟩)] 42)).alloc (Obj.cells #[.string s] 9)) = w1 at *
  go_wp2_with fail
  refine (HC.out _).mono ?_
  rintro e w2 ⟨rfl, rfl⟩
  go_wp2_with fail
  go_ret
  exact ⟨rfl, HG.out⟩
/-- The error of a page's line. -/
def errH (C : CfgZ) (g k : Int) : Int := if g < 0 ∨ (pgC C : Int) ≤ g ∨ k < 0 ∨ 8 ≤ k then 3 else 0
def putY (C : CfgZ) (Y : Nat → Nat → Nat → Nat) (g k : Int) (s : ByteArray) : Nat → Nat → Nat → Nat := fun g2 k2 m => if (g2 : Int) = g ∧ (k2 : Int) = k then wdL s.data.toList m else Y g2 k2 m
variable {Y : Nat → Nat → Nat → Nat}
theorem HL.gr {bs : List Nat} (h : HL C X A a lim Y N w) (k : Gr bs w w') (hn : ∀ x ∈ X.all ++ (A.all (cR C) ++ a.all), x ∉ bs) : HL C X A a lim Y N w' := by
  obtain ⟨l1, l2, F, V, c, S, h1, h2⟩ := h
  exact ⟨l1, l2, F, V, c, S, h1.gr k (fun x hx => hn x (List.mem_append.2 (.inl hx))) (fun x hx => hn x (List.mem_append.2 (.inr hx))), h2⟩
theorem HL.gr0 (h : HL C X A a lim Y N w) (k : Gr [] w w') : HL C X A a lim Y N w' := h.gr k (by simp)
theorem HL.more (h : HL C X A a lim Y N w) (hN : N ≤ N') : HL C X A a lim Y N' w := by
  obtain ⟨l1, l2, F, V, c, S, h1, h2⟩ := h
  exact ⟨l1, l2, F, V, c, S, h1.more hN, h2⟩
/-- What a page's line reads. -/
theorem HL.read (h : HL C X A a lim Y N w) (g k : Nat) (hg : g < pgC C) (hk : k < 8) : ∃ T : ByteArray, T.size = 64 ∧ (∀ m, m < 8 → wdL T.data.toList m = Y g k m) ∧ Calls Tryz.prog 24 #[.pointer (some ⟨X.pb, 0, none⟩), .int .i64 (g : Int), .int .i64 (k : Int)] w fun e w' => e = .returned (.tuple #[.string T, .int .i64 0]) ∧ Gr [] w w' := by
  obtain ⟨l1, l2, F, V, c, S, h1, h2⟩ := h
  have n := pg_nums h1.fl.ok h1.pos
  have hf := (h1.inv.lt g hg).2
  obtain ⟨e1, e2⟩ := h1.fl.fl.size (8 * S.fr g + k) (by omega)
  exact ⟨_, e1, fun m hm => (e2 m hm).trans (h2 g k m hg hk hm), hread_in h1 g k hg hk⟩
theorem HL.put (h : HL C X A a lim Y N w) (hN : N < 400000000) (g k : Int) (s : ByteArray) (hs : s.size = 64) :
    Calls Tryz.prog 20 #[.pointer (some ⟨X.pb, 0, none⟩), .int .i64 g, .int .i64 k, .string s] w fun e w' => e = .returned (.int .i64 (errH C g k)) ∧ HL C X A a lim (putY C Y g k s) (N + 42000) w' ∧ Gr (X.all ++ (A.all (cR C) ++ a.all)) w w' := by
  obtain ⟨l1, l2, F, V, c, S, h1, h2⟩ := h
  unfold errH
  by_cases ho : g < 0 ∨ (pgC C : Int) ≤ g ∨ k < 0 ∨ 8 ≤ k
  · rw [if_pos ho]
    refine (hwrite_out h1 g k ho s hs).mono ?_
    rintro e w2 ⟨rfl, g2⟩
    refine ⟨rfl, ⟨l1, l2, F, V, c, S, (h1.gr0 g2).more (by omega), fun g3 k3 m hg hk hm => ?_⟩, g2.of0⟩
    unfold putY
    rw [if_neg (by omega)]
    exact h2 g3 k3 m hg hk hm
  · rw [if_neg ho]
    obtain ⟨gn, rfl⟩ : ∃ n : Nat, g = (n : Int) := ⟨g.toNat, by omega⟩
    obtain ⟨kn, rfl⟩ : ∃ n : Nat, k = (n : Int) := ⟨k.toNat, by omega⟩
    have hgn : gn < pgC C := by omega
    refine (hwrite_in h1 l1 l2 hN gn kn hgn (by omega) s hs).mono ?_
    rintro e w2 ⟨F1, V1, V2, c1, S1, rfl, q1, q2, q3, q4⟩
    refine ⟨rfl, ⟨l1, l2, _, V2, _, _, q3, fun g3 k3 m hg hk hm => ?_⟩, q4⟩
    have hinj := q3.inv.inj
    have hfr : (htS S1 gn (S1.ht gn + 1)).fr = S1.fr := rfl
    rw [hfr] at hinj ⊢
    unfold putY
    show (if 8 * S1.fr g3 + k3 = 8 * S1.fr gn + kn then _ else F1 (8 * S1.fr g3 + k3) m) = _
    by_cases e : g3 = gn ∧ k3 = kn
    · rw [if_pos (by rw [e.1, e.2]), if_pos (by omega)]
    · rw [if_neg, if_neg (by omega), (q1.same l1).1 g3 k3 m hg hk]
      · exact h2 g3 k3 m hg hk hm
      · intro e2
        have : S1.fr g3 = S1.fr gn := by omega
        exact e ⟨hinj g3 gn hg hgn this, by omega⟩
end
end Go.Proofs.YtefmbchebobceaaGreat

/-
  Layer 9, pure: what a torn head says; a write of a region none of whose lines is bad, wherever the power fails.
-/
namespace Go.Proofs.YtefmbchebobceaaGreat
open Go.RowKit
set_option linter.unusedVariables false

section
variable {C : CfgZ} {D0 D' : DevS} {S : ByteArray}
end
section
variable {P : PlanR} {D : DevS} {B : BkS} {j i0 : Nat} {F : Nat → Nat → Nat}
theorem mov_good (hP : OkR P) (hd : Live D) (hb : D.bad = fun _ => false) (hm : ∀ x, D.med x < 18446744073709551616) (h : RgC P (bare D) B j F) (hj : j < 4294967295) : (movZ P D B j).1 = 0 ∨ (movZ P D B j).1 = 6 := by
  have hle3 : toN P.l j ≤ P.l := by unfold toN; omega
  have hle4 : fromN P.l j ≤ P.l := by unfold fromN; split <;> omega
  have hif : inP (bankR P) (fromI P j) := by rw [fromI_N]; exact inR P (by omega) (by omega)
  have hit : inP (bankR P) (toI P j) := by rw [toI_N]; exact inR P (by omega) (by omega)
  have hir : inP (bankR P) ((P.l : Int) + 1) := inR P (by omega) (by omega)
  obtain ⟨lf, pf, _, _, _⟩ := h.ti.place hP.ok hif
  have hread : readR D (bankR P) B (fromI P j) = (⟨(getT D lf).toArray⟩, 0) := by
    unfold readR
    rw [if_pos hif, hd.off, pf, Int.toNat_natCast]
    rfl
  have hT64 := line_size D lf
  obtain ⟨T, hT⟩ : ∃ T : ByteArray, T = ⟨(getT D lf).toArray⟩ := ⟨_, rfl⟩
  unfold movZ
  rw [hread]
  rw [← hT] at hT64 ⊢
  simp only
  obtain ⟨l1, e1, D1, B1, p1, w1, x1⟩ := write_last h.ti hd hP.ok hit hT64
  obtain ⟨_, _, _, _, _, g1⟩ := write_good h.ti hd hb hP.ok hit hT64
  obtain ⟨n1, _, _⟩ := x1.near hP.ok h.ti hit p1
  have he1 : e1 = 0 ∨ e1 = 6 := by
    rcases g1 with ⟨E, q, _⟩ | ⟨E, q, _⟩
    · rw [w1] at q; cases q; exact .inl rfl
    · rw [w1] at q; cases q; exact .inr rfl
  rw [w1]
  simp only
  rw [toI_N] at p1 x1
  by_cases c1 : e1 = 0
  · rcases x1 with ⟨_, v1, y1⟩ | ⟨z1, _⟩ | ⟨z1, _⟩
    · obtain ⟨r1, r2⟩ := h.to hP p1 y1
      have hreg8 : ∀ l : Nat, placeP (bankR P) B1 ((P.l : Int) + 1) = (l : Int) → ∀ k, k < 8 → D1.med (8 * l + k) < 18446744073709551616 := fun l hl k hk => by
        have := (y1.cnt h.ti hP.ok (inR P (by omega) (by omega)) p1).1 ((P.l : Int) + 1) hir (by omega) k hk
        unfold cntZ at this
        rw [hl, Int.toNat_natCast] at this
        rw [show D1.med (8 * l + k) = (bare D1).med (8 * l + k) from rfl, this]
        exact hm _
      obtain ⟨hv1, hv2⟩ := pkN_val hP (j + 1) (by omega)
      obtain ⟨_, _, _, _, _, g2⟩ := ww_good (k := 0) (v := pkN P (j + 1)) r1.ti v1 (n1.bad.trans hb) hreg8 hv2 hP.ok hir (by omega)
      rw [if_pos c1]
      rcases g2 with ⟨E, q, _⟩ | ⟨E, q, _⟩
      · have q' : writeWordS (bankR P) ((P.l : Int) + 1) 0 (pkN P (j + 1)) D1 B1 = (0, E, B1) := q
        rw [q']
        exact .inl rfl
      · have q' : writeWordS (bankR P) ((P.l : Int) + 1) 0 (pkN P (j + 1)) D1 B1 = (6, E, B1) := q
        rw [q']
        exact .inr rfl
    · omega
    · omega
  · rw [if_neg c1]
    exact he1
theorem regline_good (hP : OkR P) (hd : Live D) (hb : D.bad = fun _ => false) (hm : ∀ x, D.med x < 18446744073709551616) (h : RgC P (bare D) B j F) (hj : j < 4294967295) (hi : i0 < P.l) {S : ByteArray} (hS : S.size = 64) (c : Nat) :
    (regZ P i0 (fun z => writeS (bankR P) z S) D B j c).1 = 0 ∨ (regZ P i0 (fun z => writeS (bankR P) z S) D B j c).1 = 6 := by
  have key : ∀ (D : DevS) (B : BkS) (j : Nat), Live D → D.bad = (fun _ => false) → RgC P (bare D) B j F → (writeS (bankR P) (slotJ P j i0) S D B).1 = 0 ∨ (writeS (bankR P) (slotJ P j i0) S D B).1 = 6 := fun D B j hd hb h => by
    have hle := slotN_le (j := j) (i := i0) hP.l1
    rw [slotJ_N P j i0 hP.l1]
    obtain ⟨_, _, _, _, _, g⟩ := write_good h.ti hd hb hP.ok (inR P (z := ((slotN P.l j i0 : Nat) : Int)) (by omega) (by omega)) hS
    rcases g with ⟨E, q, _⟩ | ⟨E, q, _⟩ <;> rw [q]
    · exact .inl rfl
    · exact .inr rfl
  unfold regZ
  by_cases hc : P.psi ≤ (c : Int)
  · rw [if_pos hc]
    have g := mov_good hP hd hb hm h hj
    obtain ⟨_, _, hn, hM⟩ := move_last hP hd hm h hj
    obtain ⟨m1, m2⟩ := move_out hP hd hm h hj
    rcases hM with ⟨a1, a2, a3⟩ | ⟨a1, a2⟩
    · rw [if_pos a1]
      exact key _ _ _ a2 (m1.bad.trans hb) a3
    · rw [if_neg (by omega)]
      exact g
  · rw [if_neg hc]
    exact key D B j hd hb h
end
end Go.Proofs.YtefmbchebobceaaGreat
