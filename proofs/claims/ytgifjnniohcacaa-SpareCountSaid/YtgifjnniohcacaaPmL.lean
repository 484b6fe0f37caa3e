/-
  pm: Boot (Pending's contract is a premise).
-/
import Derived.Test.YtgifjnniohcacaaPmH
namespace Go.Proofs.Ytgifjnniohcacaa
open Go.RowKit

def IsPend (D : DevS) (L : List Nat) : Prop := L.Pairwise (· < ·) ∧ ∀ x : Nat, x ∈ L ↔ D.buf (x : Int) ≠ none

section
variable {P : Program} {k e t : TypeId} {α : Type} {E : EltLaw P e α} {w : World} {b n r : Nat} {f : Int → Option α} {ops : Array Oper} {rest : List Oper} {o : Oper} {a : Act} {Q : Exit → Act → World → Prop}
theorem MapZ.clear (h : MapZ E k w b n f) (ht : P.underlying t = some (.map k e)) (ty : TypeId) : ∃ w', (Builtin.clear_ #[t] ty #[.map (some b)]).run P w = .ok (.tuple #[]) w' ∧ MapZ E k w' b 0 (fun _ => none) ∧ Gr [b] w w' ∧ w'.heap.size = w.heap.size := by
  obtain ⟨D, ⟨es, clock, hb, F, hs, hD⟩, q⟩ := h
  refine ⟨ChangeMaps.setBlock w b (.map #[] clock), ?_, ⟨.map [], ⟨#[], clock, ChangeMaps.heap_setBlock_same hb _, ⟨by simp, MapKept.stamped_empty clock, by simp⟩, Nat.le_refl _, rfl⟩, MIs.empty⟩, ⟨rfl, rfl, rfl, by simp [ChangeMaps.setBlock], fun i _ hi => ChangeMaps.heap_setBlock_other hb _ (fun e => hi (by rw [e]; simp))⟩, by simp [ChangeMaps.setBlock]⟩
  simp [Builtin.clear_, run_underlying ht, MapKept.run_getObj_map hb, MapKept.run_setObj_map _ hb, Result.andThen, ChangeMaps.setBlock]
/-- 'clear(m)' -/
theorem wp_clearZ (hg : o.guard = none) (m : Operand) (hop : o.op = Op.call { callee := Callee.builtin Builtin.clear, args := #[m], argTypes := #[t] }) (hm : a.eval m = .map (some b)) (h : MapZ E k w b n f) (ht : P.underlying t = some (.map k e))
    (hK : ∀ w', MapZ E k w' b 0 (fun _ => none) → Gr [b] w w' → wpList P ops Q rest (a.put o.dst (.tuple #[])) w') : wpList P ops Q (o :: rest) a w := by
  refine wpList_plain hg fun K' hK' => ?_
  obtain ⟨w', hrun, h1, h2, h3⟩ := h.clear ht o.type
  unfold Oper.wp
  simp [execOp, hop, resolve, invoke, builtin, hm, hrun, Result.andThen]
  exact hK' _ _ (hK w' h1 h2)
end

/-! ### Boot -/
/-- The slice v of bools reads kp. -/
def KeepIs (w : World) (v : Value) (kl : Nat) (kp : Nat → Bool) : Prop := ∃ ao kc, v = .slice ao kl kc ∧ (∀ j, j < kl → ∃ b o, ao = some ⟨b, o, none⟩ ∧ b < w.heap.size ∧ w.cell? ⟨b, o + j, none⟩ = some (.bool (kp j))) ∧ (∀ j, kl ≤ j → kp j = false) ∧ kl ≤ maxLen
def bootS (L : List Nat) (kp : Nat → Bool) : Nat → Bool := fun i => (List.range L.length).any fun j => kp j && decide (L[j]? = some i)
def bootD (D : DevS) (L : List Nat) (kp : Nat → Bool) : DevS := { persistD D (bootS L kp) with buf := fun _ => none, fuse := 0, off := false }
structure Boo (w1 wr : World) (L : List Nat) (kp : Nat → Bool) (v : Value) (M : List Nat) (k : Nat) : Prop where
  own : wr.ownsRow w1.heap.size 3 1 v M.length (M.map iW)
  gr : Gr [] w1 wr
  nd : M.Nodup
  mem : ∀ x, x ∈ M ↔ ∃ j, j < k ∧ kp j = true ∧ L[j]? = some x
theorem Boo.skip {w1 wr : World} {L M : List Nat} {kp : Nat → Bool} {v : Value} {k : Nat} (Q : Boo w1 wr L kp v M k) (h : kp k = false) : Boo w1 wr L kp v M (k + 1) := by
  refine ⟨Q.own, Q.gr, Q.nd, fun x => ?_⟩
  rw [Q.mem x]
  constructor
  · rintro ⟨j, h1, h2⟩; exact ⟨j, by omega, h2⟩
  · rintro ⟨j, h1, h2, h3⟩
    by_cases e : j = k
    · subst e; rw [h] at h2; cases h2
    · exact ⟨j, by omega, h2, h3⟩
theorem Boo.take {w1 wr w2 w3 : World} {L M : List Nat} {kp : Nat → Bool} {v v' : Value} {k x : Nat} (Q : Boo w1 wr L kp v M k) (h : kp k = true) (hx : L[k]? = some x) (hn : L.Nodup) (g2 : Gr [] wr w2) (hg : w2.grownBy w3 v.ownBlock) (ho : w3.ownsRow w1.heap.size 3 1 v' (M.length + 1) (M.map iW ++ [iW x])) :
    Boo w1 w3 L kp v' (M ++ [x]) (k + 1) := by
  refine ⟨by rw [List.length_append, List.map_append]; exact ho, (Q.gr.next0 g2).grown hg (fun k hk => .inr (Q.own.lt k hk).1), ?_, fun y => ?_⟩
  · rw [List.nodup_append]
    refine ⟨Q.nd, by simp, fun y hy z hz e => ?_⟩
    rw [List.mem_singleton] at hz
    subst hz
    subst e
    obtain ⟨j, h1, _, h3⟩ := (Q.mem y).1 hy
    obtain ⟨q1, q2⟩ := List.getElem?_eq_some_iff.1 h3
    obtain ⟨q3, q4⟩ := List.getElem?_eq_some_iff.1 hx
    have := (List.getElem_inj hn (h₀ := q1) (h₁ := q3)).1 (q2.trans q4.symm)
    omega
  · rw [List.mem_append, List.mem_singleton, Q.mem y]
    constructor
    · rintro (⟨j, h1, h2⟩ | rfl)
      · exact ⟨j, by omega, h2⟩
      · exact ⟨k, by omega, h, hx⟩
    · rintro ⟨j, h1, h2, h3⟩
      by_cases e : j = k
      · subst e; rw [hx] at h3; cases h3; exact .inr rfl
      · exact .inl ⟨j, by omega, h2, h3⟩
theorem Boo.all {w1 wr : World} {L M : List Nat} {kp : Nat → Bool} {v : Value} (Q : Boo w1 wr L kp v M L.length) : (fun i => decide (i ∈ M)) = bootS L kp := by
  funext i
  unfold bootS
  rw [Bool.eq_iff_iff, decide_eq_true_eq, Q.mem i, List.any_eq_true]
  constructor
  · rintro ⟨j, h1, h2, h3⟩; exact ⟨j, by rw [List.mem_range]; exact h1, by simp [h2, h3]⟩
  · rintro ⟨j, h1, h2⟩
    rw [List.mem_range] at h1
    rw [Bool.and_eq_true, decide_eq_true_eq] at h2
    exact ⟨j, h1, h2.1, h2.2⟩

set_option maxRecDepth 20000 in
set_option maxHeartbeats 2000000 in
theorem boot_of (a : DevA) (D : DevS) (kv : Value) (kl : Nat) (kp : Nat → Bool) (w : World) (h : DevIs w a D) (hk : KeepIs w kv kl kp) (hw : ∀ l, 0 ≤ D.wear l ∧ D.wear l < 4611686018427387904)
    (hP : Calls Try.prog 44 #[.pointer (some ⟨a.bd, 0, none⟩)] w fun e w' => ∃ v L, e = .returned v ∧ IsPend D L ∧ w'.ownsRow w.heap.size 3 1 v L.length (L.map iW) ∧ (v = .slice none 0 0 ↔ L = []) ∧ Gr [] w w') :
    Calls Try.prog 25 #[.pointer (some ⟨a.bd, 0, none⟩), kv] w fun e w' => e = .returned (.tuple #[]) ∧ (∃ L, IsPend D L ∧ DevIs w' a (bootD D L kp)) ∧ Gr a.all w w' := by
  obtain ⟨i0, hi, hz0, hz1, hz2⟩ := info_parts infoI64
  obtain ⟨ao, kc, rfl, hk1, hk2, hk3⟩ := hk
  have H := Lib.hid h
  have HW := Lib.hid hw
  have HP := Lib.hid hP
  have HK := Lib.hid (And.intro hk1 hk2)
  clear h hw hP hk1 hk2
  go_enter Try.func25, Try.ntmps25
  go_wp2_with fail
  refine HP.out.mono ?_
  rintro e w1 ⟨pv, L, rfl, hL, hown, hnil, g1⟩
  have hn := H.out.ok.hi
  have hlx : ∀ x ∈ L, x < 8 * D.n ∧ D.buf (x : Int) ≠ none := fun x hx => by
    have h1 := (hL.2 x).1 hx
    have := (H.out.ok.sup _ h1).2
    exact ⟨by omega, h1⟩
  have hnd : L.Nodup := hL.1.imp fun {x y} h => by omega
  have hlen := nodup_len (8 * D.n) L hnd (fun x hx => (hlx x hx).1)
  have hcells := fun g (hg : pv.ownBlock = some g) => hown.cells hg
  obtain ⟨po, pc, hpv, hpo⟩ : ∃ po pc, pv = .slice po L.length pc ∧ ∀ k, k < L.length → ∃ g, po = some ⟨g, 0, none⟩ ∧ g < w1.heap.size ∧ w1.cell? ⟨g, k, none⟩ = (L[k]?).map iW := by
    rcases hown.2 with ⟨rfl, h0⟩ | ⟨g, cap, cur, rfl, hg, hh, _⟩
    · exact ⟨none, 0, by rw [h0], fun k hk => by omega⟩
    · refine ⟨some ⟨g, 0, none⟩, cap, rfl, fun k hk => ⟨g, rfl, (Array.getElem?_eq_some_iff.1 hh).1, ?_⟩⟩
      have := hcells g rfl k (iW (L[k])) (by rw [List.getElem?_map, List.getElem?_eq_getElem hk]; rfl)
      rw [addp] at this
      rw [this, List.getElem?_eq_getElem hk]
      rfl
  subst hpv
  have HL := Lib.hid (And.intro hL (And.intro hlx (And.intro hnd (And.intro hpo g1))))
  clear hL hlx hnd hcells hpo hown hnil g1
  obtain ⟨m, hm⟩ : ∃ m, m = L.length := ⟨_, rfl⟩
  rw [← hm] at hlen ⊢
  have HM := Lib.hid hm
  clear hm
  go_wp2_with fail
  go_loopw [4, 12] (fun v z wr => ∃ (k : Nat) (M : List Nat), k ≤ m ∧ z = .int .i64 (k : Int) ∧ Boo w1 wr L kp v M k) (fun _ z _ => m - (intOf z).toNat)
  case atStart => exact ⟨0, [], by omega, rfl, World.ownsRow_nil _ _ _ _, Gr.refl _ _, List.nodup_nil, fun x => ⟨(fun e => by cases e), fun ⟨j, h, _⟩ => by omega⟩⟩
  case round =>
    obtain ⟨k, M, hk, rfl, Q⟩ := hrel
    by_cases hlt : k < m
    · obtain ⟨x, hx⟩ : ∃ x, L[k]? = some x := ⟨L[k]'(by have := HM.out; omega), List.getElem?_eq_getElem _⟩
      obtain ⟨g, hpo, hg, hcell⟩ := HL.out.2.2.2.1 k (by have := HM.out; omega)
      rw [hx] at hcell
      have e0 : wr.cell? ⟨g, k, none⟩ = some (.int .i64 (x : Int)) := (Q.gr.cell0 hg).trans hcell
      have HQ := Lib.hid (And.intro Q hx)
      clear Q hx hcell
      subst hpo
      have hwk : 0 ≤ (k : Int) := by omega
      by_cases hkl : k < kl
      · obtain ⟨b, o, hao, hb, hc2⟩ := HK.out.1 k hkl
        have e2 : wr.cell? ⟨b, o + k, none⟩ = some (.bool (kp k)) := (HQ.out.1.gr.cell0 (by have := HL.out.2.2.2.2.size; omega)).trans ((HL.out.2.2.2.2.cell0 hb).trans hc2)
        have hd : decide ((k : Int) < (kl : Int)) = true := by simpa using hkl
        clear hc2 hb
        subst hao
        cases hkp : kp k with
        | false =>
          rw [hkp] at e2
          have HN := Lib.hid (HQ.out.1.skip hkp)
          clear hkp
          go_wp2_with fail
          go_roundw
          case rel => exact ⟨k + 1, _, by omega, by go_num, HN.out⟩
          case measure => simp [intOf]; omega
        | true =>
          rw [hkp] at e2
          have HKP := Lib.hid hkp
          have hown := HQ.out.1.own
          have hml : M.length ≤ 65536 := by
            have := nodup_len (8 * D.n) M HQ.out.1.nd (fun y hy => by
              obtain ⟨j, _, _, h3⟩ := (HQ.out.1.mem y).1 hy
              exact (HL.out.2.1 y (List.mem_of_getElem? h3)).1)
            omega
          have hsz := HQ.out.1.gr.size
          clear hkp
          go_wp2_with (at_builtin; refine wpList_append_own _ rfl _ _ 68 rfl w1.heap.size 3 i0 (.int .i64 0) 1 8 Try.underlying68 hi hz0 hz1 hz2 rfl (by decide) _ _ _ rfl (hown.alloc _) ⟨wr.heap.size, 0, none⟩ 1 1 [.int .i64 x] rfl rfl ?c1 ?c2 ?c3 ?c4 ?c5 ?_)
          case c1 =>
            intro a u ha
            match a, ha with
            | 0, ha => simp at ha; subst ha; simp [Addr.add]
          case c2 => intro u hu; simp at hu; subst hu; rfl
          case c3 => unfold maxLen; omega
          case c4 => omega
          case c5 => simp; omega
          intro v' w3 hown3 hgrow _
          have HN := Lib.hid (HQ.out.1.take HKP.out HQ.out.2 HL.out.2.2.1 ((Gr.refl [] wr).alloc _) hgrow hown3)
          clear hown3 hgrow hown
          go_wp2_with fail
          go_roundw
          case rel => exact ⟨k + 1, _, by omega, by go_num, HN.out⟩
          case measure => simp [intOf]; omega
      · have hd : decide ((k : Int) < (kl : Int)) = false := by simp; omega
        have HN := Lib.hid (HQ.out.1.skip (HK.out.2 k (by omega)))
        go_wp2_with fail
        go_roundw
        case rel => exact ⟨k + 1, _, by omega, by go_num, HN.out⟩
        case measure => simp [intOf]; omega
    · obtain rfl : k = m := by omega
      have HQ := Lib.hid Q
      clear Q
      have HX := Lib.hid (persist_row a D w1.heap.size _ M wr ((H.out.gr0 HL.out.2.2.2.2).gr0 HQ.out.gr) HQ.out.own (fun b hb => Nat.lt_of_lt_of_le (H.out.lt b hb) HL.out.2.2.2.2.size) HQ.out.nd (fun x hx => by
        obtain ⟨j, _, _, h3⟩ := (HQ.out.mem x).1 hx
        exact HL.out.2.1 x (List.mem_of_getElem? h3)) HW.out)
      go_wp2_with fail
      refine HX.out.mono ?_
      rintro e w3 ⟨rfl, D3, G3⟩
      have c1 := D3.c1
      obtain ⟨w4, hrun, M4, G4, _⟩ := D3.buf.clear undMap 0
      have D4 := D3.setBuf (f := fun _ => none) (M4.mono (Nat.zero_le _)) G4 (fun z hz => absurd rfl hz) (fun z p hz => by cases hz)
      have c5 := D4.c5
      have f5 := D4.fr 5
      have c4 := D4.c4
      have f4 := D4.fr 4
      have c0 := D4.c0
      have HD := Lib.hid (And.intro ((D4.setOff false).setFuse 0 (by omega) (by omega)) (((((HL.out.2.2.2.2.next0 HQ.out.gr).of0 (cs := a.all)).trans G3).trans (G4.mono (cs := a.all) (fun b hb => by simp at hb; subst hb; simp [DevA.all]))).trans (((grSet w4 a.bd 5 (.bool false)).trans (grSet _ a.bd 4 (.int .i64 0))).mono (cs := a.all) (fun b hb => by simp at hb; subst hb; simp [DevA.all]))))
      have HA := Lib.hid (show (fun i => decide (i ∈ M)) = bootS L kp by
        have := HM.out
        subst this
        exact HQ.out.all)
      clear D3 G3 M4 G4 D4
      go_wp2_with fail
      go_returns
      refine ⟨rfl, ⟨L, HL.out.1, ?_⟩, HD.out.2⟩
      have r := HD.out.1
      unfold bootD
      rw [← HA.out]
      exact r

end Go.Proofs.Ytgifjnniohcacaa
