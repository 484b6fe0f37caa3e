/-
  SmAa: Base, PmB, PmL, PmK, Frame, HuA, HuL.
-/
import Derived.Test.YtifekejcbhllpaaGreatSkAa
import Derived.Test.YtifekejcbhllpaaGreatSkAb
import Derived.Test.YtifekejcbhllpaaGreatSkAc
import Derived.Test.YtifekejcbhllpaaGreatSkAd
import Derived.Test.YtifekejcbhllpaaGreatSkAe
import Derived.Test.YtifekejcbhllpaaGreatSkAf
import Derived.Test.YtifekejcbhllpaaGreatSkAg
import Derived.Test.YtifekejcbhllpaaGreatSkAh
import Derived.Test.YtifekejcbhllpaaGreatSkAi
import Derived.Test.YtifekejcbhllpaaGreatSkAj
import Derived.Test.YtifekejcbhllpaaGreatSkAk
import Derived.Test.YtifekejcbhllpaaGreatSkAl
import Derived.Test.YtifekejcbhllpaaGreatSkAm
import Derived.Test.YtifekejcbhllpaaGreatSkAn
import Derived.Test.YtifekejcbhllpaaGreatSkAo
import Derived.Test.YtifekejcbhllpaaGreatSkAp
import Derived.Test.YtifekejcbhllpaaGreatSkAq
import Derived.Test.YtifekejcbhllpaaGreatSkAr
import Derived.Test.YtifekejcbhllpaaGreatSkAs
import Derived.Test.YtifekejcbhllpaaGreatSkAt
import Derived.Test.YtifekejcbhllpaaGreatSkAu
import Derived.Test.YtifekejcbhllpaaGreatSkAv
import Derived.Test.YtifekejcbhllpaaGreatSkAw
import Derived.Test.YtifekejcbhllpaaGreatSkAx
import Derived.Test.YtifekejcbhllpaaGreatSkAy
import Derived.Test.YtifekejcbhllpaaGreatSkAz
import Derived.Test.YtifekejcbhllpaaGreatSkBa
import Derived.Test.YtifekejcbhllpaaGreatSkBb
import Derived.Test.YtifekejcbhllpaaGreatSkBc
import Derived.Test.YtifekejcbhllpaaGreatSkBd
import Derived.Test.YtifekejcbhllpaaGreatSkBe
import Derived.Test.YtifekejcbhllpaaGreatSkBf
import Derived.Test.YtifekejcbhllpaaGreatSkBg
import Derived.Test.YtifekejcbhllpaaGreatSkBh
import Derived.Test.YtifekejcbhllpaaGreatSkBi
import Derived.Test.YtifekejcbhllpaaGreatSkBj
import Derived.Test.YtifekejcbhllpaaGreatSkBk
import Derived.Test.YtifekejcbhllpaaGreatSkBl
import Derived.Test.YtifekejcbhllpaaGreatSkBm
import Derived.Test.YtifekejcbhllpaaGreatSkBn
import Derived.Test.YtifekejcbhllpaaGreatRows
import Derived.WalkKit
import Derived.Handy
import Derived.Lib.Hide
import Derived.Deep.QuietTactic
import Derived.BigQuiet
import Derived.KernelRfl
import Derived.Maps.RangeWalk
import Derived.Maps.OwnSet
import Derived.StillTailTactics
import Derived.Deep.LoopGhost
import Derived.Laws.AppendOwn
import Derived.Shelf.SlIterI.Nil
import Derived.Shelf.SortM.Plain
import Derived.Shelf.SortM.SortNone
import Derived.Ground.GgzProg
import Derived.Ground.SlgmProg
import Derived.ProofKit
import Derived.OpenShut
import Derived.SizedLaws
import Derived.IntWalk
import Derived.Lib.AppendStr
import Derived.Shelf.Strings.Repeat
import Derived.Ground.NamesProg
import Derived.Lib.Agree
import Derived.Deep.MidRow
import Derived.Deep.RegionHeld3
import Derived.Deep.CutBlock
import Derived.ChangeSlices
import Derived.Deep.Slices
import Derived.Deep.Grids
import Derived.Deep.RegionLaw
import Derived.Deep.AppendLies
import Derived.BigRegion

set_option linter.unusedVariables false

/-
  What many texts share: worlds below a bound; max with 0; small arithmetic.
-/
namespace Go.Proofs.YtifekejcbhllpaaGreat
open Go.RowKit

def mx (y : Int) : Int := max 0 y
theorem mx_nonneg (y : Int) : 0 ≤ mx y := by unfold mx; omega
theorem natU64 {a : Int} (h : (Lit.int .u64 a).wf = true) : ∃ n : Nat, a = n ∧ n < 18446744073709551616 := by
  have := bounds_u64 h
  exact ⟨a.toNat, by omega, by omega⟩
end Go.Proofs.YtifekejcbhllpaaGreat

/-
  Calls of package pm that only read, and those that write one field or cell.
-/
namespace Go.Proofs.YtifekejcbhllpaaGreat
open Go.RowKit

/-! ### A field or a cell is written -/
section
variable {W : World} {a : DevA} {D : DevS}
end

theorem fuse_any (a : DevA) (D : DevS) (z : Int) (hz : z ≤ 9223372036854775807) (w : World) (h : DevIs w a D) : Calls Tryz.prog 23 #[.pointer (some ⟨a.bd, 0, none⟩), .int .i64 z] w fun e w' => e = .returned (.tuple #[]) ∧ DevIs w' a { D with fuse := mx z } ∧ Gr [a.bd] w w' := by
  have c4 := h.c4
  have f4 := h.fr 4
  have hm : ∀ (ts : Array TypeId) (t : TypeId) (w : World), (Builtin.max_ ts t #[.int .i64 z, .int .i64 0]).run Tryz.prog w = .ok (.int .i64 (mx z)) w := by
    intro ts t w
    rw [run_max_int2]
    have : (if 0 > z then 0 else z) = mx z := by unfold mx; split <;> omega
    rw [this]
  have b := mx_nonneg z
  have b2 : mx z ≤ 9223372036854775807 := by unfold mx; omega
  have RR := Lib.hid (And.intro (h.setFuse (mx z) b b2) (grSet w a.bd 4 (.int .i64 (mx z))))
  clear h
  go_enter Tryz.func23, Tryz.ntmps23
  go_wp2
  go_returns
  exact ⟨rfl, RR.out.1, RR.out.2⟩
end Go.Proofs.YtifekejcbhllpaaGreat

/-
  pm: Boot (Pending's contract is a premise).
-/
namespace Go.Proofs.YtifekejcbhllpaaGreat
open Go.RowKit

section
variable {P : Program} {k e t : TypeId} {α : Type} {E : EltLaw P e α} {w : World} {b n r : Nat} {f : Int → Option α} {ops : Array Oper} {rest : List Oper} {o : Oper} {a : Act} {Q : Exit → Act → World → Prop}
theorem MapZ.clear (h : MapZ E k w b n f) (ht : P.underlying t = some (.map k e)) (ty : TypeId) : ∃ w', (Builtin.clear_ #[t] ty #[.map (some b)]).run P w = .ok (.tuple #[]) w' ∧ MapZ E k w' b 0 (fun _ => none) ∧ Gr [b] w w' ∧ w'.heap.size = w.heap.size := by
  obtain ⟨D, ⟨es, clock, hb, F, hs, hD⟩, q⟩ := h
  refine ⟨ChangeMaps.setBlock w b (.map #[] clock), ?_, ⟨.map [], ⟨#[], clock, ChangeMaps.heap_setBlock_same hb _, ⟨by simp, MapKept.stamped_empty clock, by simp⟩, Nat.le_refl _, rfl⟩, MIs.empty⟩, ⟨rfl, rfl, rfl, by simp [ChangeMaps.setBlock], fun i _ hi => ChangeMaps.heap_setBlock_other hb _ (fun e => hi (by rw [e]; simp))⟩, by simp [ChangeMaps.setBlock]⟩
  simp [Builtin.clear_, run_underlying ht, MapKept.run_getObj_map hb, MapKept.run_setObj_map _ hb, Result.andThen, ChangeMaps.setBlock]
end

/-! ### Boot -/
/-- The slice v of bools reads kp. -/
def KeepIs (w : World) (v : Value) (kl : Nat) (kp : Nat → Bool) : Prop := ∃ ao kc, v = .slice ao kl kc ∧ (∀ j, j < kl → ∃ b o, ao = some ⟨b, o, none⟩ ∧ b < w.heap.size ∧ w.cell? ⟨b, o + j, none⟩ = some (.bool (kp j))) ∧ (∀ j, kl ≤ j → kp j = false) ∧ kl ≤ maxLen
theorem Boo.skip {w1 wr : World} {L M : List Nat} {kp : Nat → Bool} {v : Value} {k : Nat} (Q : Boo w1 wr L kp v M k) (h : kp k = false) : Boo w1 wr L kp v M (k + 1) := by
  refine ⟨Q.own, Q.gr, Q.nd, fun x => ?_⟩
  rw [Q.mem x]
  constructor
  · rintro ⟨j, h1, h2⟩; exact ⟨j, by omega, h2⟩
  · rintro ⟨j, h1, h2, h3⟩
    by_cases e : j = k
    · subst e; rw [h] at h2; cases h2
    · exact ⟨j, by omega, h2, h3⟩
theorem Boo.take {w1 wr w2 w3 : World} {L M : List Nat} {kp : Nat → Bool} {v v' : Value} {k x : Nat} (Q : Boo w1 wr L kp v M k) (h : kp k = true) (hx : L[k]? = some x) (hn : L.Nodup) (g2 : Gr [] wr w2) (hg : w2.grownBy w3 v.ownBlock) (ho : w3.ownsRow w1.heap.size 3 1 v' (M.length + 1) (M.map iW ++ [iW x])) :
    Boo w1 w3 L kp v' (M ++ [x]) (k + 1) := by
  refine ⟨by rw [List.length_append, List.map_append]; exact ho, (Q.gr.next0 g2).grown hg (fun k hk => .inr (Q.own.lt k hk).1), ?_, fun y => ?_⟩
  · rw [List.nodup_append]
    refine ⟨Q.nd, by simp, fun y hy z hz e => ?_⟩
    rw [List.mem_singleton] at hz
    subst hz
    subst e
    obtain ⟨j, h1, _, h3⟩ := (Q.mem y).1 hy
    obtain ⟨q1, q2⟩ := List.getElem?_eq_some_iff.1 h3
    obtain ⟨q3, q4⟩ := List.getElem?_eq_some_iff.1 hx
    have := (List.getElem_inj hn (h₀ := q1) (h₁ := q3)).1 (q2.trans q4.symm)
    omega
  · rw [List.mem_append, List.mem_singleton, Q.mem y]
    constructor
    · rintro (⟨j, h1, h2⟩ | rfl)
      · exact ⟨j, by omega, h2⟩
      · exact ⟨k, by omega, h, hx⟩
    · rintro ⟨j, h1, h2, h3⟩
      by_cases e : j = k
      · subst e; rw [hx] at h3; cases h3; exact .inr rfl
      · exact .inl ⟨j, by omega, h2, h3⟩
set_option maxRecDepth 20000 in
set_option maxHeartbeats 2000000 in
theorem boot_of (a : DevA) (D : DevS) (kv : Value) (kl : Nat) (kp : Nat → Bool) (w : World) (h : DevIs w a D) (hk : KeepIs w kv kl kp) (hw : ∀ l, 0 ≤ D.wear l ∧ D.wear l < 4611686018427387904)
    (hP : Calls Tryz.prog 47 #[.pointer (some ⟨a.bd, 0, none⟩)] w fun e w' => ∃ v L, e = .returned v ∧ IsPend D L ∧ w'.ownsRow w.heap.size 3 1 v L.length (L.map iW) ∧ (v = .slice none 0 0 ↔ L = []) ∧ Gr [] w w') :
    Calls Tryz.prog 24 #[.pointer (some ⟨a.bd, 0, none⟩), kv] w fun e w' => e = .returned (.tuple #[]) ∧ (∃ L, IsPend D L ∧ DevIs w' a (bootD D L kp)) ∧ Gr a.all w w' := by
  obtain ⟨i0, hi, hz0, hz1, hz2⟩ := info_parts infoI64
  obtain ⟨ao, kc, rfl, hk1, hk2, hk3⟩ := hk
  have H := Lib.hid h
  have HW := Lib.hid hw
  have HP := Lib.hid hP
  have HK := Lib.hid (And.intro hk1 hk2)
  clear h hw hP hk1 hk2
  go_enter Tryz.func24, Tryz.ntmps24
  go_wp2_with fail
  refine HP.out.mono ?_
  rintro e w1 ⟨pv, L, rfl, hL, hown, hnil, g1⟩
  have hn := H.out.ok.hi
  have hlx : ∀ x ∈ L, x < 8 * D.n ∧ D.buf (x : Int) ≠ none := fun x hx => by
    have h1 := (hL.2 x).1 hx
    have := (H.out.ok.sup _ h1).2
    exact ⟨by omega, h1⟩
  have hnd : L.Nodup := hL.1.imp fun {x y} h => by omega
  have hlen := nodup_len (8 * D.n) L hnd (fun x hx => (hlx x hx).1)
  have hcells := fun g (hg : pv.ownBlock = some g) => hown.cells hg
  obtain ⟨po, pc, hpv, hpo⟩ : ∃ po pc, pv = .slice po L.length pc ∧ ∀ k, k < L.length → ∃ g, po = some ⟨g, 0, none⟩ ∧ g < w1.heap.size ∧ w1.cell? ⟨g, k, none⟩ = (L[k]?).map iW := by
    rcases hown.2 with ⟨rfl, h0⟩ | ⟨g, cap, cur, rfl, hg, hh, _⟩
    · exact ⟨none, 0, by rw [h0], fun k hk => by omega⟩
    · refine ⟨some ⟨g, 0, none⟩, cap, rfl, fun k hk => ⟨g, rfl, (Array.getElem?_eq_some_iff.1 hh).1, ?_⟩⟩
      have := hcells g rfl k (iW (L[k])) (by rw [List.getElem?_map, List.getElem?_eq_getElem hk]; rfl)
      rw [addp] at this
      rw [this, List.getElem?_eq_getElem hk]
      rfl
  subst hpv
  have HL := Lib.hid (And.intro hL (And.intro hlx (And.intro hnd (And.intro hpo g1))))
  clear hL hlx hnd hcells hpo hown hnil g1
  obtain ⟨m, hm⟩ : ∃ m, m = L.length := ⟨_, rfl⟩
  rw [← hm] at hlen ⊢
  have HM := Lib.hid hm
  clear hm
  go_wp2_with fail
  go_loopw [4, 12] (fun v z wr => ∃ (k : Nat) (M : List Nat), k ≤ m ∧ z = .int .i64 (k : Int) ∧ Boo w1 wr L kp v M k) (fun _ z _ => m - (intOf z).toNat)
  case atStart => exact ⟨0, [], by omega, rfl, World.ownsRow_nil _ _ _ _, Gr.refl _ _, List.nodup_nil, fun x => ⟨(fun e => by cases e), fun ⟨j, h, _⟩ => by omega⟩⟩
  case round =>
    obtain ⟨k, M, hk, rfl, Q⟩ := hrel
    by_cases hlt : k < m
    · obtain ⟨x, hx⟩ : ∃ x, L[k]? = some x := ⟨L[k]'(by have := HM.out; omega), List.getElem?_eq_getElem _⟩
      obtain ⟨g, hpo, hg, hcell⟩ := HL.out.2.2.2.1 k (by have := HM.out; omega)
      rw [hx] at hcell
      have e0 : wr.cell? ⟨g, k, none⟩ = some (.int .i64 (x : Int)) := (Q.gr.cell0 hg).trans hcell
      have HQ := Lib.hid (And.intro Q hx)
      clear Q hx hcell
      subst hpo
      have hwk : 0 ≤ (k : Int) := by omega
      by_cases hkl : k < kl
      · obtain ⟨b, o, hao, hb, hc2⟩ := HK.out.1 k hkl
        have e2 : wr.cell? ⟨b, o + k, none⟩ = some (.bool (kp k)) := (HQ.out.1.gr.cell0 (by have := HL.out.2.2.2.2.size; omega)).trans ((HL.out.2.2.2.2.cell0 hb).trans hc2)
        have hd : decide ((k : Int) < (kl : Int)) = true := by simpa using hkl
        clear hc2 hb
        subst hao
        cases hkp : kp k with
        | false =>
          rw [hkp] at e2
          have HN := Lib.hid (HQ.out.1.skip hkp)
          clear hkp
          go_wp2_with fail
          go_roundw
          case rel => exact ⟨k + 1, _, by omega, by go_num, HN.out⟩
          case measure => simp [intOf]; omega
        | true =>
          rw [hkp] at e2
          have HKP := Lib.hid hkp
          have hown := HQ.out.1.own
          have hml : M.length ≤ 65536 := by
            have := nodup_len (8 * D.n) M HQ.out.1.nd (fun y hy => by
              obtain ⟨j, _, _, h3⟩ := (HQ.out.1.mem y).1 hy
              exact (HL.out.2.1 y (List.mem_of_getElem? h3)).1)
            omega
          have hsz := HQ.out.1.gr.size
          clear hkp
          go_wp2_with (at_builtin; refine wpList_append_own _ rfl _ _ 101 rfl w1.heap.size 3 i0 (.int .i64 0) 1 8 Tryz.underlying101 hi hz0 hz1 hz2 rfl (by decide) _ _ _ rfl (hown.alloc _) ⟨wr.heap.size, 0, none⟩ 1 1 [.int .i64 x] rfl rfl ?c1 ?c2 ?c3 ?c4 ?c5 ?_)
          case c1 =>
            intro a u ha
            match a, ha with
            | 0, ha => simp at ha; subst ha; simp [Addr.add]
          case c2 => intro u hu; simp at hu; subst hu; rfl
          case c3 => unfold maxLen; omega
          case c4 => omega
          case c5 => simp; omega
          intro v' w3 hown3 hgrow _
          have HN := Lib.hid (HQ.out.1.take HKP.out HQ.out.2 HL.out.2.2.1 ((Gr.refl [] wr).alloc _) hgrow hown3)
          clear hown3 hgrow hown
          go_wp2_with fail
          go_roundw
          case rel => exact ⟨k + 1, _, by omega, by go_num, HN.out⟩
          case measure => simp [intOf]; omega
      · have hd : decide ((k : Int) < (kl : Int)) = false := by simp; omega
        have HN := Lib.hid (HQ.out.1.skip (HK.out.2 k (by omega)))
        go_wp2_with fail
        go_roundw
        case rel => exact ⟨k + 1, _, by omega, by go_num, HN.out⟩
        case measure => simp [intOf]; omega
    · obtain rfl : k = m := by omega
      have HQ := Lib.hid Q
      clear Q
      have HX := Lib.hid (persist_row a D w1.heap.size _ M wr ((H.out.gr0 HL.out.2.2.2.2).gr0 HQ.out.gr) HQ.out.own (fun b hb => Nat.lt_of_lt_of_le (H.out.lt b hb) HL.out.2.2.2.2.size) HQ.out.nd (fun x hx => by
        obtain ⟨j, _, _, h3⟩ := (HQ.out.mem x).1 hx
        exact HL.out.2.1 x (List.mem_of_getElem? h3)) HW.out)
      go_wp2_with fail
      refine HX.out.mono ?_
      rintro e w3 ⟨rfl, D3, G3⟩
      have c1 := D3.c1
      obtain ⟨w4, hrun, M4, G4, _⟩ := D3.buf.clear undMap 0
      have D4 := D3.setBuf (f := fun _ => none) (M4.mono (Nat.zero_le _)) G4 (fun z hz => absurd rfl hz) (fun z p hz => by cases hz)
      have c5 := D4.c5
      have f5 := D4.fr 5
      have c4 := D4.c4
      have f4 := D4.fr 4
      have c0 := D4.c0
      have HD := Lib.hid (And.intro ((D4.setOff false).setFuse 0 (by omega) (by omega)) (((((HL.out.2.2.2.2.next0 HQ.out.gr).of0 (cs := a.all)).trans G3).trans (G4.mono (cs := a.all) (fun b hb => by simp at hb; subst hb; simp [DevA.all]))).trans (((grSet w4 a.bd 5 (.bool false)).trans (grSet _ a.bd 4 (.int .i64 0))).mono (cs := a.all) (fun b hb => by simp at hb; subst hb; simp [DevA.all]))))
      have HA := Lib.hid (show (fun i => decide (i ∈ M)) = bootS L kp by
        have := HM.out
        subst this
        exact HQ.out.all)
      clear D3 G3 M4 G4 D4
      go_wp2_with fail
      go_returns
      refine ⟨rfl, ⟨L, HL.out.1, ?_⟩, HD.out.2⟩
      have r := HD.out.1
      unfold bootD
      rw [← HA.out]
      exact r

end Go.Proofs.YtifekejcbhllpaaGreat

/-
  pm: Pending.
-/
namespace Go.Proofs.YtifekejcbhllpaaGreat
open Go.RowKit Go.Sort Go.Shelf

/-! What the kit's commands lay, written out (marks: every seat). -/
def PmK.keysA_ren : Go.Shelf.Ren := ⟨fun | 7 => 78 | 10 => 109 | n => n, fun | 23 => 108 | 26 => 3 | 3 => 150 | 28 => 147 | 0 => 0 | 27 => 146 | 33 => 94 | 4 => 4 | n => n, fun | n => n⟩
theorem PmK.keysA : Go.Proofs.SlLaysZI.n7 Tryz.prog PmK.keysA_ren where
  mixed := by kernel_rfl
  f7 := ⟨ "maps.Keys[map[int]gabion/pm.cell,int,gabion/pm.cell]", by decide, Tryz.func78.trans (congrArg some (by kernel_rfl))⟩
  f10 := ⟨ "maps.Keys[map[int]gabion/pm.cell,int,gabion/pm.cell]$1", by decide, Tryz.func109.trans (congrArg some (by kernel_rfl))⟩
  t0 := Tryz.underlying0
  a0 := Tryz.isAgg0
  z0 := Tryz.sizeOf0
  v0 := Tryz.zeroValue0
  t4 := Tryz.underlying4
  a4 := Tryz.isAgg4
  z4 := Tryz.sizeOf4
  v4 := Tryz.zeroValue4
  t23 := Tryz.underlying108
  a23 := Tryz.isAgg108
  z23 := Tryz.sizeOf108
  v23 := Tryz.zeroValue108
  t26 := Tryz.underlying3
  a26 := Tryz.isAgg3
  z26 := Tryz.sizeOf3
  v26 := Tryz.zeroValue3
  t27 := Tryz.underlying146
  a27 := Tryz.isAgg146
  z27 := Tryz.sizeOf146
  v27 := Tryz.zeroValue146
  t28 := Tryz.underlying147
  a28 := Tryz.isAgg147
  z28 := Tryz.sizeOf147
  v28 := Tryz.zeroValue147
  t33 := Tryz.underlying94
  a33 := Tryz.isAgg94
  z33 := Tryz.sizeOf94
  v33 := Tryz.zeroValue94
def PmK.sortedA_ren : Go.Shelf.Ren := ⟨fun | 6 => 77 | 8 => 107 | 9 => 108 | 11 => 138 | 13 => 140 | 12 => 139 | 23 => 165 | 24 => 166 | 14 => 156 | 15 => 157 | 16 => 158 | 17 => 159 | 18 => 160 | 19 => 161 | 20 => 162 | 21 => 163 | 22 => 164 | 25 => 177 | 26 => 178 | 27 => 179 | 28 => 180 | 29 => 181 | 30 => 182 | 31 => 183 | n => n, fun | 26 => 3 | 28 => 147 | 24 => 101 | 0 => 0 | 3 => 3 | 37 => 69 | 48 => 95 | 50 => 22 | 4 => 4 | 40 => 215 | 39 => 214 | 45 => 176 | 5 => 5 | 9 => 9 | 51 => 235 | 55 => 238 | 57 => 240 | 58 => 86 | 33 => 94 | n => n, fun | n => n⟩
theorem PmK.sortedA : Go.Proofs.SlLaysZI.n6 Tryz.prog PmK.sortedA_ren where
  mixed := by kernel_rfl
  f6 := ⟨ "slices.Sorted[int]", by decide, Tryz.func77.trans (congrArg some (by kernel_rfl))⟩
  f8 := ⟨ "slices.Collect[int]", by decide, Tryz.func107.trans (congrArg some (by kernel_rfl))⟩
  f11 := ⟨ "slices.AppendSeq[[]int,int]", by decide, Tryz.func138.trans (congrArg some (by kernel_rfl))⟩
  t0 := Tryz.underlying0
  a0 := Tryz.isAgg0
  z0 := Tryz.sizeOf0
  v0 := Tryz.zeroValue0
  t24 := Tryz.underlying101
  a24 := Tryz.isAgg101
  z24 := Tryz.sizeOf101
  v24 := Tryz.zeroValue101
  t26 := Tryz.underlying3
  a26 := Tryz.isAgg3
  z26 := Tryz.sizeOf3
  v26 := Tryz.zeroValue3
  t28 := Tryz.underlying147
  a28 := Tryz.isAgg147
  z28 := Tryz.sizeOf147
  v28 := Tryz.zeroValue147
  i26 := by kernel_rfl
def PmK.sortA_ren : Go.Shelf.Ren := ⟨fun | 5 => 108 | 8 => 140 | 7 => 139 | 19 => 165 | 20 => 166 | 10 => 156 | 11 => 157 | 12 => 158 | 13 => 159 | 14 => 160 | 15 => 161 | 16 => 162 | 17 => 163 | 18 => 164 | 30 => 177 | 31 => 178 | 32 => 179 | 33 => 180 | 34 => 181 | 35 => 182 | 40 => 183 | n => n, fun | 23 => 101 | 25 => 3 | 3 => 3 | 32 => 69 | 22 => 101 | 0 => 0 | 44 => 95 | 46 => 22 | 4 => 4 | 36 => 215 | 35 => 214 | 41 => 176 | 5 => 5 | 9 => 9 | 53 => 235 | 57 => 238 | 63 => 240 | 64 => 86 | n => n, fun | n => n⟩
theorem PmK.sortA : Go.Proofs.SlLaysM.n5 Tryz.prog PmK.sortA_ren where
  mixed := by kernel_rfl
  f5 := ⟨ "slices.Sort[[]int,int]", by decide, Tryz.func108.trans (congrArg some (by kernel_rfl))⟩
  f7 := ⟨ "slices.pdqsortOrdered[int]", by decide, Tryz.func139.trans (congrArg some (by kernel_rfl))⟩
  f8 := Tryz.func140.trans (congrArg some (by kernel_rfl))
  f10 := ⟨ "slices.insertionSortOrdered[int]", by decide, Tryz.func156.trans (congrArg some (by kernel_rfl))⟩
  f11 := ⟨ "slices.heapSortOrdered[int]", by decide, Tryz.func157.trans (congrArg some (by kernel_rfl))⟩
  f12 := ⟨ "slices.breakPatternsOrdered[int]", by decide, Tryz.func158.trans (congrArg some (by kernel_rfl))⟩
  f13 := ⟨ "slices.choosePivotOrdered[int]", by decide, Tryz.func159.trans (congrArg some (by kernel_rfl))⟩
  f14 := ⟨ "slices.reverseRangeOrdered[int]", by decide, Tryz.func160.trans (congrArg some (by kernel_rfl))⟩
  f15 := ⟨ "slices.partialInsertionSortOrdered[int]", by decide, Tryz.func161.trans (congrArg some (by kernel_rfl))⟩
  f16 := ⟨ "cmp.Less[int]", by decide, Tryz.func162.trans (congrArg some (by kernel_rfl))⟩
  f17 := ⟨ "slices.partitionEqualOrdered[int]", by decide, Tryz.func163.trans (congrArg some (by kernel_rfl))⟩
  f18 := ⟨ "slices.partitionOrdered[int]", by decide, Tryz.func164.trans (congrArg some (by kernel_rfl))⟩
  f19 := Tryz.func165.trans (congrArg some (by kernel_rfl))
  f20 := Tryz.func166.trans (congrArg some (by kernel_rfl))
  f30 := ⟨ "slices.siftDownOrdered[int]", by decide, Tryz.func177.trans (congrArg some (by kernel_rfl))⟩
  f31 := Tryz.func178.trans (congrArg some (by kernel_rfl))
  f32 := Tryz.func179.trans (congrArg some (by kernel_rfl))
  f33 := ⟨ "slices.medianAdjacentOrdered[int]", by decide, Tryz.func180.trans (congrArg some (by kernel_rfl))⟩
  f34 := ⟨ "slices.medianOrdered[int]", by decide, Tryz.func181.trans (congrArg some (by kernel_rfl))⟩
  f35 := ⟨ "cmp.isNaN[int]", by decide, Tryz.func182.trans (congrArg some (by kernel_rfl))⟩
  f40 := ⟨ "slices.order2Ordered[int]", by decide, Tryz.func183.trans (congrArg some (by kernel_rfl))⟩
  t0 := Tryz.underlying0
  a0 := Tryz.isAgg0
  z0 := Tryz.sizeOf0
  v0 := Tryz.zeroValue0
  t3 := Tryz.underlying3
  a3 := Tryz.isAgg3
  z3 := Tryz.sizeOf3
  v3 := Tryz.zeroValue3
  t4 := Tryz.underlying4
  a4 := Tryz.isAgg4
  z4 := Tryz.sizeOf4
  v4 := Tryz.zeroValue4
  t5 := Tryz.underlying5
  a5 := Tryz.isAgg5
  z5 := Tryz.sizeOf5
  v5 := Tryz.zeroValue5
  t9 := Tryz.underlying9
  a9 := Tryz.isAgg9
  z9 := Tryz.sizeOf9
  v9 := Tryz.zeroValue9
  t22 := Tryz.underlying101
  a22 := Tryz.isAgg101
  z22 := Tryz.sizeOf101
  v22 := Tryz.zeroValue101
  t23 := Tryz.underlying101
  a23 := Tryz.isAgg101
  z23 := Tryz.sizeOf101
  v23 := Tryz.zeroValue101
  t25 := Tryz.underlying3
  a25 := Tryz.isAgg3
  z25 := Tryz.sizeOf3
  v25 := Tryz.zeroValue3
  t32 := Tryz.underlying69
  a32 := Tryz.isAgg69
  z32 := Tryz.sizeOf69
  v32 := Tryz.zeroValue69
  t35 := Tryz.underlying214
  a35 := Tryz.isAgg214
  z35 := Tryz.sizeOf214
  v35 := Tryz.zeroValue214
  t36 := Tryz.underlying215
  a36 := Tryz.isAgg215
  z36 := Tryz.sizeOf215
  v36 := Tryz.zeroValue215
  t41 := Tryz.underlying176
  a41 := Tryz.isAgg176
  z41 := Tryz.sizeOf176
  v41 := Tryz.zeroValue176
  t44 := Tryz.underlying95
  a44 := Tryz.isAgg95
  z44 := Tryz.sizeOf95
  v44 := Tryz.zeroValue95
  t46 := Tryz.underlying22
  a46 := Tryz.isAgg22
  z46 := Tryz.sizeOf22
  v46 := Tryz.zeroValue22
  t53 := Tryz.underlying235
  a53 := Tryz.isAgg235
  z53 := Tryz.sizeOf235
  v53 := Tryz.zeroValue235
  t57 := Tryz.underlying238
  a57 := Tryz.isAgg238
  z57 := Tryz.sizeOf238
  v57 := Tryz.zeroValue238
  t63 := Tryz.underlying240
  a63 := Tryz.isAgg240
  z63 := Tryz.sizeOf240
  v63 := Tryz.zeroValue240
  t64 := Tryz.underlying86
  a64 := Tryz.isAgg86
  z64 := Tryz.sizeOf86
  v64 := Tryz.zeroValue86

theorem pmSorts (m : Nat) : AnyZI.SortsIn Tryz.prog PmK.sortedA_ren Fence.wide m :=
  ⟨fun blk off cap ss W hH hblk hsz => callsIn_wide.2 (AnyM.slices_Sort_int PmK.sortA blk off cap ss W hH hblk hsz), fun p cap W => callsIn_wide.2 (AnyM.slices_Sort_int_none PmK.sortA p cap W)⟩
theorem keys_call (mb : Option Nat) (W : World) : Calls Tryz.prog 78 #[.map mb] W fun e w' => e = .returned (.func (.func 109) #[] #[.pointer (some ⟨W.heap.size, 0, none⟩)]) ∧ w' = W.alloc (.cells #[.map mb] 108) :=
  (callsIn_wide (n := 5)).1 (AnyZI.keys_in PmK.keysA Fence.wide 5 trivial rfl mb W)
set_option maxHeartbeats 1000000 in
theorem sorted_call {H : Type} (b nn : Nat) (D0 : DataW H) (R : Value → Option (DataW H × List MemPlace)) (w : World) (hown : w.ownsMap Tryz.prog 3 R b nn D0) (hmax : Maps.size D0 ≤ maxLen) (hbytes : Maps.size D0 * 8 ≤ 140737488355328) :
    Calls Tryz.prog 77 #[.func (.func 109) #[] #[.pointer (some ⟨w.heap.size, 0, none⟩)]] (w.alloc (.cells #[.map (some b)] 108)) fun e w' => ∃ (v : Value) (ss : List Int), e = .returned v ∧ ss.Perm (intKeys D0) ∧
      w'.ownsRow (w.alloc (.cells #[.map (some b)] 108)).heap.size 3 1 v ss.length ((ss.mergeSort (fun x y => decide (x ≤ y))).map encZ) ∧ (v = .slice none 0 0 ↔ ss = []) ∧ Below (w.alloc (.cells #[.map (some b)] 108)).heap.size (w.alloc (.cells #[.map (some b)] 108)) w' := by
  refine (callsIn_wide (n := 5)).1 ?_
  have hbl := hown.lt
  have hseq : SeqGives Fence.wide 2 Tryz.prog 109 #[.pointer (some ⟨w.heap.size, 0, none⟩)] encZ (fun ss => ss.Perm (intKeys D0)) (Maps.size D0) (w.alloc (.cells #[.map (some b)] 108)) :=
    AnyZI.keys_gives (ρ := PmK.keysA_ren) { PmK.keysA with } Fence.wide _ trivial rfl (by omega) w.heap.size b nn D0 _ (by simp) (by simp) (by
      obtain ⟨es, clock, hb, Ft, hs, hD⟩ := hown
      exact ⟨es, clock, (Below.heap_alloc _ _ b hbl).trans hb, Ft, hs, hD⟩)
  exact AnyZI.sorted_in PmK.sortedA Fence.wide 5 trivial trivial trivial trivial rfl (by omega) (pmSorts _) (enters_of Tryz.func108 (by kernel_rfl) rfl) 109 #[.pointer (some ⟨w.heap.size, 0, none⟩)] trivial (enters_of Tryz.func109 (by kernel_rfl) rfl) _ _ hmax hbytes _ hseq

/-! ### The keys as a list of words -/
theorem keys_facts {P : Program} {k : TypeId} {H : Type} {R : Value → Option (DataW H × List MemPlace)} {w : World} {b n : Nat} {D0 : DataW H} (hown : w.ownsMap P k R b n D0) (hk : P.underlying k = some (.int .i64)) :
    (intKeys D0).Nodup ∧ ∀ x, x ∈ intKeys D0 ↔ Maps.has D0 (.int .i64 x) = true := by
  obtain ⟨es, hD, hpw, _⟩ := hown.entries (Maps.int_keyed hk)
  obtain ⟨es', hD', hko⟩ := hown.keysOf
  obtain rfl : es = es' := by rw [hD] at hD'; simpa using hD'
  subst hD
  have kx : ∀ p ∈ es, ∃ x, p.1 = Lit.int .i64 x := fun p hp => by
    obtain ⟨v, hv⟩ := hko p hp
    obtain ⟨x, _, hx, _⟩ := Maps.keyOf_i64 hk hv
    exact ⟨x, hx⟩
  constructor
  · show (es.map fun p => Go.intOf p.1).Nodup
    rw [List.Nodup, List.pairwise_map]
    refine hpw.imp_of_mem fun {p q} hp hq hne e => hne ?_
    obtain ⟨x, hx⟩ := kx p hp
    obtain ⟨y, hy⟩ := kx q hq
    rw [hx, hy] at e ⊢
    have e2 : x = y := e
    rw [e2]
  · intro x
    rw [Maps.has_eq, List.any_eq_true]
    show x ∈ es.map (fun p => Go.intOf p.1) ↔ _
    rw [List.mem_map]
    constructor
    · rintro ⟨p, hp, rfl⟩
      obtain ⟨y, hy⟩ := kx p hp
      refine ⟨p, hp, ?_⟩
      rw [hy]
      exact key_self y
    · rintro ⟨p, hp, hs⟩
      obtain ⟨y, hy⟩ := kx p hp
      rw [hy, key_is, decide_eq_true_eq] at hs
      exact ⟨p, hp, by rw [hy, ← hs]; rfl⟩

theorem own_base {w : World} {base base' : Nat} {e : TypeId} {size n : Nat} {v : Value} {xs : List Value} (h : w.ownsRow base e size v n xs) (hb : base' ≤ base) : w.ownsRow base' e size v n xs := by
  refine ⟨h.1, ?_⟩
  rcases h.2 with hz | ⟨g, cap, cur, hv, hg, rest⟩
  · exact .inl hz
  · exact .inr ⟨g, cap, cur, hv, Nat.le_trans hb hg, rest⟩
theorem pend_list {D : DevS} {w : World} {b n : Nat} (hok : DevOk D) {D0 : DataW Unit} (hown : w.ownsMap Tryz.prog 3 cellE.R b n D0) (hm : MIs cellE D0 D.buf) {ss : List Int} (hS : ss.Perm (intKeys D0)) :
    ∃ L : List Nat, IsPend D L ∧ L.length = ss.length ∧ (ss.mergeSort (fun x y => decide (x ≤ y))).map encZ = L.map iW := by
  obtain ⟨hnd, hmem⟩ := keys_facts hown undInt
  have hwf := intKeys_wf hown undInt
  have hM : ∀ z, z ∈ ss.mergeSort (fun x y => decide (x ≤ y)) ↔ z ∈ intKeys D0 := fun z => by rw [List.mem_mergeSort, hS.mem_iff]
  have hbuf : ∀ z, z ∈ intKeys D0 → D.buf z ≠ none := fun z hz e => by
    have := (hm z (hwf z hz)).1
    rw [(hmem z).1 hz, e] at this
    cases this
  have hpos : ∀ z, z ∈ ss.mergeSort (fun x y => decide (x ≤ y)) → 0 ≤ z := fun z hz => (hok.sup z (hbuf z ((hM z).1 hz))).1
  refine ⟨(ss.mergeSort (fun x y => decide (x ≤ y))).map Int.toNat, ⟨?_, ?_⟩, ?_, ?_⟩
  · have tr : ∀ a b c : Int, decide (a ≤ b) = true → decide (b ≤ c) = true → decide (a ≤ c) = true := fun a b c h1 h2 => by simp only [decide_eq_true_eq] at *; omega
    have tot : ∀ a b : Int, (decide (a ≤ b) || decide (b ≤ a)) = true := fun a b => by simp only [Bool.or_eq_true, decide_eq_true_eq]; omega
    have h1 := List.pairwise_mergeSort tr tot ss
    have h2 : (ss.mergeSort (fun x y => decide (x ≤ y))).Nodup := (((List.mergeSort_perm ss _).trans hS).nodup_iff).2 hnd
    rw [List.pairwise_map]
    refine (h1.and h2).imp_of_mem fun {x y} hx hy h => ?_
    have h3 := of_decide_eq_true h.1
    have h4 := h.2
    have h5 := hpos x hx
    have h6 := hpos y hy
    omega
  · intro x
    rw [List.mem_map]
    constructor
    · rintro ⟨z, hz, rfl⟩
      have := hpos z hz
      rw [Int.toNat_of_nonneg this]
      exact hbuf z ((hM z).1 hz)
    · intro hx
      have hs := hok.sup _ hx
      have hn := hok.hi
      refine ⟨(x : Int), (hM _).2 ((hmem _).2 ?_), by simp⟩
      rw [(hm (x : Int) (wfZ (by omega) (by omega))).1]
      cases hb : D.buf (x : Int) with
      | none => exact absurd hb hx
      | some _ => rfl
  · rw [List.length_map, List.length_mergeSort]
  · rw [List.map_map]
    refine List.map_congr_left fun z hz => ?_
    show encZ z = iW z.toNat
    unfold iW
    rw [Int.toNat_of_nonneg (hpos z hz)]

theorem pending_any (a : DevA) (D : DevS) (w : World) (h : DevIs w a D) (hc : D.cnt ≤ 17592186044416) :
    Calls Tryz.prog 47 #[.pointer (some ⟨a.bd, 0, none⟩)] w fun e w' => ∃ v L, e = .returned v ∧ IsPend D L ∧ w'.ownsRow w.heap.size 3 1 v L.length (L.map iW) ∧ (v = .slice none 0 0 ↔ L = []) ∧ Gr [] w w' := by
  have c1 := h.c1
  obtain ⟨D0, hown, hm⟩ := h.buf
  have hsz : Maps.size D0 ≤ 17592186044416 := Nat.le_trans hown.size_le hc
  have HS := Lib.hid (sorted_call a.bb D.cnt D0 cellE.R w hown (by unfold maxLen; omega) (by omega))
  have HP := Lib.hid (fun ss (hS : List.Perm ss (intKeys D0)) => pend_list h.ok hown hm hS)
  clear h hown hm hsz
  go_enter Tryz.func47, Tryz.ntmps47
  go_wp2_with fail
  refine (keys_call _ _).mono ?_
  rintro e w' ⟨rfl, rfl⟩
  go_wp2_with fail
  refine HS.out.mono ?_
  rintro e w' ⟨v, ss, rfl, hS, hrow, hnil, hb⟩
  have HR := Lib.hid (show ∃ L, IsPend D L ∧ w'.ownsRow w.heap.size 3 1 v L.length (L.map iW) ∧ (v = .slice none 0 0 ↔ L = []) ∧ Gr [] w w' by
    obtain ⟨L, h1, h2, h3⟩ := HP.out ss hS
    refine ⟨L, h1, ?_, ?_, ((Gr.refl [] w).alloc _).trans (.ofBelow hb)⟩
    · rw [h2, ← h3]
      exact own_base hrow (by simp)
    · rw [hnil, ← List.length_eq_zero_iff, ← h2, List.length_eq_zero_iff])
  clear hS hrow hnil hb
  go_wp2_with fail
  go_ret
  exact ⟨v, _, rfl, HR.out.choose_spec.1, HR.out.choose_spec.2.1, HR.out.choose_spec.2.2.1, HR.out.choose_spec.2.2.2⟩

theorem boot_any (a : DevA) (D : DevS) (kv : Value) (kl : Nat) (kp : Nat → Bool) (w : World) (h : DevIs w a D) (hk : KeepIs w kv kl kp) (hw : ∀ l, 0 ≤ D.wear l ∧ D.wear l < 4611686018427387904) (hc : D.cnt ≤ 17592186044416) :
    Calls Tryz.prog 24 #[.pointer (some ⟨a.bd, 0, none⟩), kv] w fun e w' => e = .returned (.tuple #[]) ∧ (∃ L, IsPend D L ∧ DevIs w' a (bootD D L kp)) ∧ Gr a.all w w' :=
  boot_of a D kv kl kp w h hk hw (pending_any a D w h hc)
end Go.Proofs.YtifekejcbhllpaaGreat

/-
  The frame of a law's row, the part that is the same for all: arrays of integers opened; facts on the program.
-/
namespace Go.Proofs.YtifekejcbhllpaaGreat
open Go.ChangeShapes Go.WideShapes Go.ChangeAt Go.RowKit

theorem okWide_arr {P : Program} {w : World} {r : Reach} {base : Nat} {t : TypeId} {v : Value} {n : Nat} {e : TypeId} (ht : P.underlying t = some (.array n e)) (h : Value.okWide P w r base t v) : ∃ cs, v = .agg cs ∧ cs.size = P.cellsOf t := by
  simp only [Value.okWide, ht] at h
  obtain ⟨cs, h1, h2, _⟩ := h
  exact ⟨cs, h1, h2⟩

/-- An array of integers by value, opened. -/
theorem open_ints_array {H : Type} {enc : TypeId × Value → H} {P : Program} {w : World} {b0 base : Nat} {spare : Nat → Bool} {held : Bool} {t e : TypeId} {n : Nat} {k : IntKind} {v : Value} {d : DataW H} {p : List MemPlace}
    (ht : P.underlying t = some (.array n e)) (he : P.underlying e = some (.int k)) (hc : P.cellsOf e = 1) (hn : P.cellsOf t = n)
    (hv : Value.okWide P w .any b0 t v) (h : DataW.Trod enc P w base spare held t v d p) :
    ∃ xs : List Int, v = .agg (xs.map (Value.int k)).toArray ∧ xs.length = n ∧ ∀ x ∈ xs, (Lit.int k x).wf = true := by
  obtain ⟨cs, rfl, hs⟩ := okWide_arr ht hv
  obtain ⟨fuel, hf⟩ := h
  obtain ⟨ys, m, _, _, hl, hy, hi⟩ := DataW.trod_array ht hf
  have hlen : cs.toList.length = n := by simpa [hn] using hs
  have key : ∀ i (h : i < cs.toList.length), ∃ x, cs.toList[i] = .int k x ∧ (Lit.int k x).wf = true := by
    intro i hlt
    have h1 := hi i (by omega)
    rw [hc, Nat.mul_one, List.getElem?_eq_getElem (by omega)] at h1
    obtain ⟨x, hx, _, hw⟩ := DataW.trod_int he h1
    refine ⟨x, ?_, hw⟩
    have h2 : (List.take 1 (List.drop i cs.toList))[0]? = some (Value.int k x) := by
      have : List.take 1 (List.drop i cs.toList) = [Value.int k x] := hx
      rw [this]; rfl
    rw [List.getElem?_take_of_lt (by omega), List.getElem?_drop, Nat.add_zero, List.getElem?_eq_getElem hlt] at h2
    exact Option.some.inj h2
  refine ⟨cs.toList.map fun c => match c with | .int _ x => x | _ => 0, ?_, by simpa using hlen, ?_⟩
  · have e1 : (cs.toList.map fun c => match c with | .int _ x => x | _ => 0).map (Value.int k) = cs.toList := by
      apply List.ext_getElem (by simp)
      intro i h1 h2
      obtain ⟨x, hx, _⟩ := key i h2
      simp only [List.getElem_map, hx]
    rw [e1]
  · intro x hx
    obtain ⟨c, hc1, hc2⟩ := List.mem_map.1 hx
    obtain ⟨i, hi1, hi2⟩ := List.getElem_of_mem hc1
    obtain ⟨y, hy1, hy2⟩ := key i hi1
    rw [← hc2, ← hi2, hy1]
    exact hy2

end Go.Proofs.YtifekejcbhllpaaGreat

/-
  A list at work on a device that may lose its power (unless cm) or whose lines may be bad (unless g).
-/
namespace Go.Proofs.YtifekejcbhllpaaGreat
open Go.RowKit
set_option linter.unusedVariables false

theorem LsC.bootX {C : CfgZ} {D : DevS} {B : Nat → BkS} {j : Nat → Nat} {G : Nat → Nat → Nat → Nat} (hC : OkC C) (hd : Live D) (h : LsC C (bare D) B j G) {L : List Nat} {kp : Nat → Bool} (hL : IsPend D L) : LsC C (bootD D L kp) B j G := by
  have hm := boot_live kp hd hL
  refine ⟨fun k hk => by rw [hm]; exact h.hd k hk, fun q hq => (h.rg q hq).keep (hC.reg hq).1 (boot_calm D L kp) rfl rfl fun x _ _ => by rw [hm]; rfl⟩
section
variable {P : PlanR} {D : DevS} {B : BkS} {j i0 : Nat} {F : Nat → Nat → Nat}
end
section
variable {C : CfgZ} {g cm : Bool} {F F' : Nat → Nat → Nat} {V : FlV} {N : Nat} {D E : DevS} {B : Nat → BkS} {j : Nat → Nat} {l : Nat} {e : Int} {G0 : Int → (Nat → Nat) → Prop} {B' : BkS} {j' N' : Nat} {H : Nat → Nat} {Gf : Nat → Nat → Nat → Nat}
end
section
variable {w w' : World} {A : FlA} {a : DevA} {C : CfgZ} {g cm : Bool} {F F' : Nat → Nat → Nat} {V : FlV} {N : Nat}
theorem FLx.fl (h : FLx C A a g true F V N w) : FL C A a g F V N w := by
  obtain ⟨ok, D, B, j, c, h1, lv, hc, h2, h3⟩ := h
  exact ⟨ok, D, B, j, c, by rw [calm_bare (hc rfl)] at h1; exact h1, h2, h3⟩
/-- A fuse is set. -/
theorem FLx.fuse (h : FL C A a g F V N w) (z : Int) (hz : z ≤ 9223372036854775807) :
    Calls Tryz.prog 23 #[.pointer (some ⟨a.bd, 0, none⟩), .int .i64 z] w fun e w' => e = .returned (.tuple #[]) ∧ FLx C A a g false F V N w' ∧ Gr a.all w w' := by
  obtain ⟨ok, D, B, j, c, h1, h2, h3⟩ := h
  refine (fuse_any a D z hz w h3).mono ?_
  rintro e w2 ⟨rfl, d2, g2⟩
  refine ⟨rfl, ⟨ok, { D with fuse := mx z }, B, j, c, ?_, ⟨h1.calm.off, h1.calm.buf⟩, fun e => absurd e (by decide), h2.gr g2 (fun x hx e => ?_), d2⟩, g2.mono (fun b hb => by simp at hb; subst hb; simp [DevA.all])⟩
  · have : bare { D with fuse := mx z } = bare D := rfl
    rw [this, calm_bare h1.calm]
    exact h1
  have hm : x ∈ a.all := by rw [List.mem_singleton.1 e]; simp [DevA.all]
  unfold FlA.all at hx
  rcases List.mem_append.1 hx with hx | hx
  · obtain ⟨n1, n2, n3⟩ := h2.na
    simp at hx
    rcases hx with e | e | e
    · exact n1 (e ▸ hm)
    · exact n2 (e ▸ hm)
    · exact n3 (e ▸ hm)
  · obtain ⟨q, hq, hx⟩ := List.mem_flatMap.1 hx
    have R := h2.rg q (List.mem_range.1 hq)
    unfold FlA.reg at hx
    rcases List.mem_cons.1 hx with e | e
    · exact R.ka (e ▸ hm)
    · exact R.bk.sep _ e hm
end
end Go.Proofs.YtifekejcbhllpaaGreat

/-
  Layer 10: Write, whatever comes; pages told by what they read.
-/
namespace Go.Proofs.YtifekejcbhllpaaGreat
open Go.RowKit
set_option linter.unusedVariables false

section
variable {w w' : World} {X : HtA} {A : FlA} {a : DevA} {C : CfgZ} {gd cm : Bool} {F F' : Nat → Nat → Nat} {V V' : FlV} {N N' lim : Nat} {S : HtS}
variable {Y : Nat → Nat → Nat → Nat}
theorem HLg.pos (h : HLg C X A a gd cm lim Y N w) : 0 < pgC C ∧ OkC C := by
  obtain ⟨l1, l2, F, V, S, h1, h2⟩ := h
  exact ⟨h1.pos, h1.fl.ok⟩
end
end Go.Proofs.YtifekejcbhllpaaGreat
