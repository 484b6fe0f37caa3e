/-
  DqAe: DiK, DiM, DiN, DiO.
-/
import Derived.Test.YtefiapmgdjlnnaaDoorDnAa
import Derived.Test.YtefiapmgdjlnnaaDoorDnAb
import Derived.Test.YtefiapmgdjlnnaaDoorDnAc
import Derived.Test.YtefiapmgdjlnnaaDoorDnAd
import Derived.Test.YtefiapmgdjlnnaaDoorDnAe
import Derived.Test.YtefiapmgdjlnnaaDoorDnAf
import Derived.Test.YtefiapmgdjlnnaaDoorDnAg
import Derived.Test.YtefiapmgdjlnnaaDoorDnAh
import Derived.Test.YtefiapmgdjlnnaaDoorDnAi
import Derived.Test.YtefiapmgdjlnnaaDoorDqAd
import Derived.Test.YtefiapmgdjlnnaaDoorRows
import Derived.WalkKit
import Derived.ProofKit
import Derived.OpenShut
import Derived.SizedLaws
import Derived.ChangeSlices
import Derived.Deep.Slices
import Derived.Deep.Grids
import Derived.Lib.AppendIntMem
import Derived.Deep.DeepCutAuto
import Derived.Deep.AppendLies
import Derived.Deep.RegionLaw

set_option linter.unusedVariables false

/-
  Layer 17 (dir): List.
-/
namespace Go.Proofs.YtefiapmgdjlnnaaDoor
open Go.RowKit Go.Shelf
set_option linter.unusedVariables false

/-- The cells of entries. -/
def flatE : List (ByteArray × Nat) → List Value
  | [] => []
  | x :: L => .string x.1 :: .int .i64 (x.2 : Int) :: flatE L
theorem flatE_app : ∀ (L M : List (ByteArray × Nat)), flatE (L ++ M) = flatE L ++ flatE M
  | [], M => rfl
  | x :: L, M => by simp only [flatE, List.cons_append, flatE_app L M]
theorem flatE_get : ∀ (L : List (ByteArray × Nat)) (t : Nat), t < L.length * 2 → (flatE L)[t]? = some ((encE (L[t / 2]!))[t % 2]!)
  | [], t, h => by simp at h
  | x :: L, 0, h => rfl
  | x :: L, 1, h => rfl
  | x :: L, t + 2, h => by
    have ih := flatE_get L t (by simp only [List.length_cons] at h; omega)
    rw [show (t + 2) / 2 = t / 2 + 1 by omega, show (t + 2) % 2 = t % 2 by omega]
    simp only [flatE, List.getElem?_cons_succ]
    rw [ih]
    rfl
theorem holdsE {w : World} {base g n cap : Nat} {L : List (ByteArray × Nat)} (h : w.ownsRow base 44 2 (.slice (some ⟨g, 0, none⟩) n cap) n (flatE L)) (hn : n = L.length) : Go.Sort.HoldsK encE 2 w g 0 L.toArray := by
  intro j hj
  rw [Go.Sort.size_flatK] at hj
  have hj' : j < L.length * 2 := by simpa using hj
  refine ⟨?_, World.ownsRow.frozenAt h _⟩
  rw [Nat.zero_add, World.ownsRow.cellAt h j (by omega), flatE_get L j hj', Go.Sort.get_flatK _ _ _ _ hj]
  simp
/-- Entries in memory. -/
def EntAt (w : World) (g : Nat) (L : List (ByteArray × Nat)) : Prop := ∀ i (h : i < L.length), w.cell? ⟨g, i * 2, none⟩ = some (.string L[i].1) ∧ w.cell? ⟨g, i * 2 + 1, none⟩ = some (.int .i64 (L[i].2 : Int))
theorem entAt_of {w : World} {g : Nat} {d : Array (ByteArray × Nat)} (h : Go.Sort.HoldsK encE 2 w g 0 d) : EntAt w g d.toList := fun i hi => by
  have hi' : i < d.size := by simpa using hi
  have h0 := (Go.Sort.HoldsK.cell h (c := 0) hi' (by omega)).1
  have h1 := (Go.Sort.HoldsK.cell h (c := 1) hi' (by omega)).1
  rw [getElem!_pos d i hi', show 0 + i * 2 + 0 = i * 2 by omega] at h0
  rw [getElem!_pos d i hi', show 0 + i * 2 + 1 = i * 2 + 1 by omega] at h1
  exact ⟨by simpa [encE] using h0, by simpa [encE] using h1⟩
/-- The names and numbers, by rising names. -/
structure SrtF (F : ByteArray → Option Nat) (L : List (ByteArray × Nat)) : Prop where
  up : L.Pairwise fun x y => x.1.data.toList < y.1.data.toList
  mem : ∀ s v, (s, v) ∈ L ↔ F s = some v
def entN (F : ByteArray → Option Nat) (V : List ByteArray) : List (ByteArray × Nat) := V.map fun s => (s, (F s).getD 0)
theorem srt_of {F : ByteArray → Option Nat} {N V : List ByteArray} {L : List (ByteArray × Nat)} (ok : NmOk F N) (hV : V.Perm N) (hp : L.Perm (entN F V)) (hs : L.Pairwise fun x y => ¬ y.1.data.toList < x.1.data.toList) : SrtF F L := by
  have hnd : (L.map Prod.fst).Nodup := by
    have e : (entN F V).map Prod.fst = V := by unfold entN; rw [List.map_map]; simp [Function.comp_def]
    have := hp.map Prod.fst
    rw [e] at this
    exact (this.trans hV).nodup_iff.2 ok.nd
  have hne : L.Pairwise fun x y => x.1 ≠ y.1 := List.pairwise_map.1 hnd
  refine ⟨(hs.and hne).imp fun {x y} h => ?_, fun s v => ?_⟩
  · rcases Classical.em (x.1.data.toList < y.1.data.toList) with q | q
    · exact q
    · exact absurd (seq17 (List.le_antisymm (List.not_lt.1 h.1) (List.not_lt.1 q))) h.2
  · rw [hp.mem_iff]
    unfold entN
    rw [List.mem_map]
    constructor
    · rintro ⟨y, hy, e⟩
      injection e with e1 e2
      subst e1
      have := (ok.mem y).1 (hV.mem_iff.1 hy)
      cases c : F y with
      | none => rw [c] at this; cases this
      | some u => rw [c] at e2; rw [← e2]; rfl
    · intro h
      exact ⟨s, hV.mem_iff.2 ((ok.mem s).2 (by rw [h]; rfl)), by rw [h]; rfl⟩
theorem SrtF.nodup {F : ByteArray → Option Nat} {L : List (ByteArray × Nat)} (h : SrtF F L) : L.Nodup := h.up.imp fun {x y} h e => by subst e; exact List.lt_irrefl _ h
theorem SrtF.uniq {F : ByteArray → Option Nat} {L M : List (ByteArray × Nat)} (h : SrtF F L) (k : SrtF F M) : L = M := by
  have hp : L.Perm M := (List.perm_ext_iff_of_nodup h.nodup k.nodup).2 fun x => (h.mem x.1 x.2).trans (k.mem x.1 x.2).symm
  exact hp.eq_of_pairwise (le := fun x y => x.1.data.toList < y.1.data.toList) (fun a b _ _ h1 h2 => absurd (List.lt_trans h1 h2) (List.lt_irrefl _)) h.up k.up
/-- A slice of cells is no iterator, and no map. -/
theorem own_ran {P : Program} {k e et : TypeId} {α : Type} {E : EltLaw P e α} {w : World} {b r n m size base cnt : Nat} {v : Value} {xs : List Value} {f : ByteArray → Option α} {left : ByteArray → Bool} (h : w.ownsRow base et size v m xs) (hr : RanT E k w b r n f left cnt) : ∀ x, v.ownBlock = some x → x ≠ r := by
  intro x hx e
  subst e
  obtain ⟨D, L, ⟨es, clock, since, seen, c0, q1, q2, q3, q4, q5, q6⟩, _⟩ := hr
  rcases h.2 with ⟨rfl, _⟩ | ⟨g, cap, cur, rfl, _, hh, _⟩
  · cases hx
  · obtain rfl : g = x := by simpa [Value.ownBlock] using hx
    rw [q5] at hh
    injection hh with hh
    cases hh
theorem infoE17 : (Tryd.prog.info? 44).map (fun i => (i.zero, i.size, i.bytes)) = some (some (.agg #[.string ⟨#[]⟩, .int .i64 0]), 2, 24) := by kernel_rfl
theorem makeE_run (c : Nat) (hc : c ≤ 1000000) : ∃ cur : Array Value, cur.size = c * 2 ∧ ∀ W : World, (Instr.makeSlice 49 (.int .i64 0) (.int .i64 (c : Int))).run Tryd.prog W = .ok (.slice (some ⟨W.heap.size, 0, none⟩) 0 c) (W.alloc (.cells cur 44)) := by
  obtain ⟨i0, h0, hz0, hz1, hz2⟩ := info_parts infoE17
  refine ⟨madeCells (Value.cells (.agg #[.string ⟨#[]⟩, .int .i64 0])) (c * 2), ?_, fun W => ?_⟩
  · simp [madeCells, Value.cells]
  · have hbm2 : (i0.bytes : Int) * ((c : Nat) : Int) ≤ 281474976710656 := by rw [hz2]; omega
    have r := run_make (P := Tryd.prog) W 49 44 i0 _ Tryd.underlying49 h0 hz0 .i64 .i64 0 (c : Int) (by omega) (by omega) hbm2 (by omega)
    simp only [Int.toNat_natCast, hz1, Int.toNat_zero] at r
    exact r
/-- List at work. -/
structure LsR (w wr : World) (v : Value) (F : ByteArray → Option Nat) (V : List ByteArray) : Prop where
  own : wr.ownsRow w.heap.size 44 2 v V.length (flatE (entN F V.reverse))
  gr : Gr [] w wr
  nn : v ≠ .slice none 0 0
structure LsI (w wr : World) (A : DiA) (v : Value) (F : ByteArray → Option Nat) (N V : List ByteArray) (k r : Nat) (left : ByteArray → Bool) (g : Nat) : Prop where
  ls : LsR w wr v F V
  mv : MvD N V A.nb k left
  ran : RanT niE 9 wr (A.mb k) r (cntB A.nb k N) (atB A.nb k F) left g
  lr : w.heap.size ≤ r
theorem LsR.take {w wr w2 w3 : World} {v v' : Value} {F : ByteArray → Option Nat} {V : List ByteArray} {z : ByteArray} {c : Nat} (h : LsR w wr v F V) (hz : F z = some c) (g2 : Gr [] w w2) (hl : ∀ x, v.ownBlock = some x → w.heap.size ≤ x) (hgrow : w2.grownBy w3 v.ownBlock) (hown : w3.ownsRow w.heap.size 44 2 v' (V.length + 1) (flatE (entN F V.reverse) ++ [.string z, .int .i64 (c : Int)])) (hn : v' ≠ .slice none 0 0) : LsR w w3 v' F (z :: V) := by
  refine ⟨?_, g2.grown hgrow fun x hx => .inr (hl x hx), hn⟩
  have e : flatE (entN F (z :: V).reverse) = flatE (entN F V.reverse) ++ [.string z, .int .i64 (c : Int)] := by
    rw [List.reverse_cons]
    unfold entN
    rw [List.map_append, flatE_app]
    simp only [List.map_cons, List.map_nil, flatE, hz, Option.getD_some]
  rw [e]
  exact hown
set_option maxHeartbeats 8000000 in
set_option maxRecDepth 100000 in
theorem dlist_any {w : World} {A : DiA} {F : ByteArray → Option Nat} {N : List ByteArray} (h : DiIs w A F N) : Calls Tryd.prog 22 #[.pointer (some ⟨A.db, 0, none⟩)] w fun e w' => ∃ (g cap : Nat) (L : List (ByteArray × Nat)), e = .returned (.slice (some ⟨g, 0, none⟩) L.length cap) ∧ w.heap.size ≤ g ∧ g < w'.heap.size ∧ EntAt w' g L ∧ SrtF F L ∧ L.length = N.length ∧ Gr [] w w' := by
  have undStr := Tryd.underlying9
  have undMap : Tryd.prog.underlying 59 = some (.map 9 3) := Tryd.underlying59
  obtain ⟨i0, hi, hz0, hz1, hz2⟩ := info_parts infoE17
  have hnb := h.nb
  obtain ⟨cur, hcur, hmk⟩ := makeE_run N.length (by omega)
  have c0 := h.hd.cell 0
  have c1 := h.hd.cell 1
  have HH := Lib.hid h
  have H1 := Lib.hid (show LsR w (w.alloc (.cells cur 44)) (.slice (some ⟨w.heap.size, 0, none⟩) 0 N.length) F [] from
    ⟨World.ownsRow_made w cur N.length (Nat.le_refl _) (by unfold maxLen; omega) hcur, (Gr.refl _ w).alloc _, by simp⟩)
  have c0a := (HH.out.gr0 ((Gr.refl [] w).alloc (Obj.cells cur 44))).hd.cell 0
  clear h hcur
  go_enter Tryd.func22, Tryd.ntmps22
  go_upto_region 4 with fail
  generalize (w.alloc (.cells cur 44)) = w1 at *
  obtain ⟨lb, hlb⟩ : ∃ x, w.heap.size = x := ⟨_, rfl⟩
  rw [hlb] at H1 ⊢
  clear hlb hmk c0 c1
  go_upto_region 5 with fail
  go_loopw [3, 20] (fun v z wr => ∃ (k : Nat) (V : List ByteArray), k ≤ A.nb ∧ z = .int .i64 (k : Int) ∧ LsR w wr v F V ∧ MvB N V A.nb k) (fun _ z _ => A.nb - (intOf z).toNat)
  case atStart => exact ⟨0, [], by omega, rfl, H1.out, List.nodup_nil, fun s => by simp⟩
  case round =>
    clear H1
    obtain ⟨k, V, hk, rfl, S, M⟩ := hrel
    have HS := Lib.hid S
    have HM := Lib.hid M
    clear S M
    by_cases hlt : k < A.nb
    · have H2 := HH.out.gr0 HS.out.gr
      have ck := H2.bk.at' k hlt
      have HMo := Lib.hid (H2.bk.mp k hlt)
      have HLo := Lib.hid (HH.out.bk.mp k hlt).lt
      have b1 : (k : Int) < (A.nb : Int) := by omega
      have b2 : (0 : Int) ≤ (k : Int) := by omega
      clear H2
      go_wp2_with (at_range; refine wp_rangeT rfl _ rfl rfl HMo.out undStr undMap ?_; intro w2 cnt R2 G2 hs2)
      have HI := Lib.hid (show ∃ r, r = wr.heap.size ∧ LsI w w2 A u3 F N V k r (fun z => (atB A.nb k F z).isSome) cnt from
        ⟨_, rfl, ⟨own_gr0 HS.out.own G2, HS.out.gr.next0 G2, HS.out.nn⟩, HM.out.start HH.out.ok, R2, HS.out.gr.size⟩)
      clear R2 G2 hs2 ck HMo b1 b2 HS HM
      generalize wr.heap.size = r at *
      obtain ⟨r', rfl, I⟩ := HI.out
      have HI := Lib.hid I
      clear I
      go_frame
      go_loopg [3] cnt (fun g v wr => ∃ V left, LsI w wr A v F N V k r' left g)
      case atStart => exact ⟨_, _, HI.out⟩
      case round =>
        clear HI
        obtain ⟨V, left, Q⟩ := hrel
        have HQ := Lib.hid Q
        clear Q
        go_wp2_with (at_next; refine wp_nextT rfl _ rfl rfl HQ.out.ran undStr ?_ ?_)
        · intro hdone
          have HD := Lib.hid (And.intro HQ.out.ls (HQ.out.mv.done HH.out.ok hdone))
          clear hdone HQ
          go_wp2_with fail
          go_roundw
          case rel => exact ⟨k + 1, _, by omega, by go_num, HD.out.1, HD.out.2⟩
          case measure => simp [intOf]; omega
        · intro z c w3 cnt' hz hl hf R1 hlt2 G1 hs1 hen
          obtain ⟨q1, q2, q3⟩ := HQ.out.mv.step HH.out.ok hl hf
          have he2 : (Instr.entry (.pointer (some ⟨r', 0, none⟩))).run Tryd.prog w3 = .ok (.tuple #[.string z, .int .i64 (c : Int)]) w3 := hen
          have hnr := own_ran HQ.out.ls.own HQ.out.ran
          have hown := own_gr HQ.out.ls.own G1 fun x hx e => hnr x hx (List.mem_singleton.1 e)
          have hg3 := HQ.out.ls.gr.nextN G1 fun x hx => .inr (by rw [List.mem_singleton] at hx; have := HQ.out.lr; omega)
          have HA5 := Lib.hid (hown.alloc (Obj.cells #[.string z, .int .i64 (c : Int)] 44))
          have HN5 := Lib.hid (Go.Proofs.YtefiapmgdjlnnaaDoor.Holds.new w3 #[.string z, .int .i64 (c : Int)] 44)
          have one5 : ∀ u ∈ [Value.string z, Value.int .i64 (c : Int)], u.oneCell' = true := by simp [Value.oneCell']
          have HZ := Lib.hid (And.intro q1 (And.intro q2 (And.intro q3 (And.intro hg3 (And.intro R1 hlt2)))))
          have hvl : V.length ≤ N.length := nodup_sub HQ.out.mv.nd fun s hs => ((HQ.out.mv.mem s).1 hs).1
          have hsz3 := hg3.size
          clear q1 q2 q3 hg3 R1 hlt2 hl hf G1 hs1 hen hown hnr
          go_wp2_with (at_builtin; refine wpList_append_own _ rfl _ _ 49 rfl w.heap.size 44 i0 _ 2 24 Tryd.underlying49 hi hz0 hz1 hz2 rfl (by decide) _ _ _ rfl HA5.out ⟨w3.heap.size, 0, none⟩ 1 1 [.string z, .int .i64 (c : Int)] rfl rfl ?c1 ?c2 ?c3 ?c4 ?c5 ?_)
          case c1 =>
            intro a u ha
            match a, ha with
            | 0, ha => simp at ha; subst ha; simp [Addr.add]
            | 1, ha => simp at ha; subst ha; simp [Addr.add]
          case c2 => exact one5
          case c3 => unfold maxLen; omega
          case c4 => omega
          case c5 => rw [World.size_alloc]; omega
          intro v' w5 hown5 hgrow hnn
          have HN2 := Lib.hid (show LsI w w5 A v' F N (z :: V) k r' (fun y => left y && decide (y ≠ z)) cnt' from by
            have hl5 : ∀ x, u3.ownBlock = some x → w.heap.size ≤ x := fun x hx => (HQ.out.ls.own.lt x hx).1
            have ls := HQ.out.ls.take HZ.out.1 (HZ.out.2.2.2.1.alloc _) hl5 hgrow hown5 hnn
            have R4 := HZ.out.2.2.2.2.1.gr0 ((Gr.refl [] w3).alloc (Obj.cells #[.string z, .int .i64 (c : Int)] 44))
            have R5 := R4.gr (Gr.ofGrown hgrow) (fun e => by
              have := hl5 _ (by simpa using e)
              have := HLo.out
              omega) (fun e => own_ran HQ.out.ls.own HQ.out.ran _ (by simpa using e) rfl)
            exact ⟨ls, HZ.out.2.2.1, by simpa using R5, HQ.out.lr⟩)
          clear hown5 hgrow hnn HA5 HN5 he2
          go_wp2_with fail
          go_roundg cnt'
          case measure => exact HZ.out.2.2.2.2.2
          case rel => exact ⟨_, _, HN2.out⟩
    · obtain rfl : k = A.nb := by omega
      have hp := HM.out.all HH.out.ok fun e => by omega
      obtain ⟨gb, cap, hv, hgl, hgh⟩ : ∃ gb cap, u3 = .slice (some ⟨gb, 0, none⟩) V.length cap ∧ w.heap.size ≤ gb ∧ gb < wr.heap.size := by
        rcases HS.out.own.2 with ⟨h0, _⟩ | ⟨gb, cap, cur, hv, hb, hg, _⟩
        · exact absurd h0 HS.out.nn
        · exact ⟨gb, cap, hv, hb, (Array.getElem?_eq_some_iff.1 hg).1⟩
      subst hv
      have hel : V.length = (entN F V.reverse).length := by unfold entN; simp
      have hH := holdsE HS.out.own hel
      have HSo := Lib.hid (sortE gb cap (entN F V.reverse).toArray wr hH hgh (by rw [List.size_toArray, ← hel, hp.length_eq]; omega))
      rw [List.size_toArray, ← hel] at HSo
      have HP := Lib.hid (And.intro hp (And.intro hgl HS.out.gr))
      have HG5 := Lib.hid hgh
      clear hH hel hp hgl hgh HS HM hlt hk
      go_wp2_with fail
      refine HSo.out.mono ?_
      rintro e w6 ⟨rfl, d', h1, h2, h3, h4, h5⟩
      have hr : V.reverse.Perm N := (List.reverse_perm V).trans HP.out.1
      have hlen : d'.toList.length = V.length := by rw [Array.length_toList, h1]
      have HL := Lib.hid (show w.heap.size ≤ gb ∧ gb < w6.heap.size ∧ EntAt w6 gb d'.toList ∧ SrtF F d'.toList ∧ d'.toList.length = N.length ∧ Gr [] w w6 from
        ⟨HP.out.2.1, Nat.lt_of_lt_of_le HG5.out h5.size, entAt_of h4, srt_of HH.out.ok hr (by simpa using h2) h3, by rw [hlen, HP.out.1.length_eq], HP.out.2.2.nextN h5 fun x hx => .inr (by rw [List.mem_singleton] at hx; have := HP.out.2.1; omega)⟩)
      have hlen' := Lib.hid hlen
      clear h1 h2 h3 h4 h5 hr hlen HSo
      go_wp2_with fail
      go_ret
      rw [← hlen'.out]
      exact ⟨gb, cap, d'.toList, rfl, HL.out⟩
end Go.Proofs.YtefiapmgdjlnnaaDoor

/-
  Layer 17 (dir): DirOrder's walk.
-/
namespace Go.Proofs.YtefiapmgdjlnnaaDoor
open Go.RowKit Go.Shelf
set_option linter.unusedVariables false

theorem EntAt.gr0 {w w' : World} {g : Nat} {L : List (ByteArray × Nat)} (h : EntAt w g L) (hg : g < w.heap.size) (k : Gr [] w w') : EntAt w' g L := fun i hi => ⟨(k.cell0 hg).trans (h i hi).1, (k.cell0 hg).trans (h i hi).2⟩
/-- Integers in memory. -/
def IntAt (w : World) (g n : Nat) (f : Nat → Nat) : Prop := ∀ i, i < n → w.cell? ⟨g, i, none⟩ = some (.int .i64 (f i : Int))
theorem IntAt.gr0 {w w' : World} {g n : Nat} {f : Nat → Nat} (h : IntAt w g n f) (hg : g < w.heap.size) (k : Gr [] w w') : IntAt w' g n f := fun i hi => (k.cell0 hg).trans (h i hi)
section
variable {w wr w2 : World} {A B A' : DiA} {F G : ByteArray → Option Nat} {N M : List ByteArray} {ga gb : Nat → Nat} {ja jb : Nat}
end
end Go.Proofs.YtefiapmgdjlnnaaDoor

/-
  Layer 17 (dir), the document's: directories as sorted lists; Find; what a Put and a Drop leave.
-/
namespace Go.Proofs.YtefiapmgdjlnnaaDoor
open Go.RowKit Go.Shelf
set_option linter.unusedVariables false

abbrev Ent := ByteArray × Nat
def ltE (x y : Ent) : Prop := x.1.data.toList < y.1.data.toList
/-- Entries in memory, the document's. -/
def EntR (w : World) (base : Nat) (v : Value) (L : List Ent) : Prop := w.ownsRow base 41 2 v L.length (flatE L)
theorem EntR.at' {w : World} {base : Nat} {v : Value} {L : List Ent} (h : EntR w base v L) {i : Nat} (hi : i < L.length) : ∃ g cap, v = .slice (some ⟨g, 0, none⟩) L.length cap ∧ base ≤ g ∧ g < w.heap.size ∧ w.cell? ⟨g, i * 2, none⟩ = some (.string L[i].1) ∧ w.cell? ⟨g, i * 2 + 1, none⟩ = some (.int .i64 (L[i].2 : Int)) := by
  have h0 := h
  rcases h.2 with ⟨_, e⟩ | ⟨g, cap, cur, rfl, hb, hg, _⟩
  · omega
  · have c0 := World.ownsRow.cellAt h0 (i * 2) (by omega)
    have c1 := World.ownsRow.cellAt h0 (i * 2 + 1) (by omega)
    rw [flatE_get L _ (by omega), show i * 2 / 2 = i by omega, show i * 2 % 2 = 0 by omega, getElem!_pos L i hi] at c0
    rw [flatE_get L _ (by omega), show (i * 2 + 1) / 2 = i by omega, show (i * 2 + 1) % 2 = 1 by omega, getElem!_pos L i hi] at c1
    exact ⟨g, cap, rfl, hb, (Array.getElem?_eq_some_iff.1 hg).1, c0, c1⟩
theorem EntR.gr {w w' : World} {base : Nat} {v : Value} {L : List Ent} {bs : List Nat} (h : EntR w base v L) (k : Gr bs w w') (hn : ∀ b, v.ownBlock = some b → b ∉ bs) : EntR w' base v L := own_gr h k hn
theorem EntR.gr0 {w w' : World} {base : Nat} {v : Value} {L : List Ent} (h : EntR w base v L) (k : Gr [] w w') : EntR w' base v L := own_gr0 h k
theorem EntR.shape {w : World} {base : Nat} {v : Value} {L : List Ent} (h : EntR w base v L) : ∃ ao cap, v = .slice ao L.length cap := by
  rcases h.2 with ⟨rfl, e⟩ | ⟨g, cap, cur, rfl, _⟩
  · exact ⟨none, 0, by rw [e]⟩
  · exact ⟨_, _, rfl⟩
/-- Where a name stands. -/
def findE (L : List Ent) (s : ByteArray) : Int := match L.findIdx? (fun x => decide (x.1 = s)) with
  | some i => (i : Int)
  | none => -1
theorem findE_none {L : List Ent} {s : ByteArray} (h : ∀ x ∈ L, x.1 ≠ s) : findE L s = -1 := by
  unfold findE
  rw [List.findIdx?_eq_none_iff.2 fun x hx => by simp [h x hx]]
theorem findE_at {L : List Ent} {s : ByteArray} {i : Nat} (hi : i < L.length) (h : L[i].1 = s) (hb : ∀ j (hj : j < i), L[j].1 ≠ s) : findE L s = (i : Int) := by
  unfold findE
  rw [List.findIdx?_eq_some_iff_getElem.2 ⟨hi, by simp [h], fun j hj => by simp [hb j hj]⟩]
set_option maxHeartbeats 8000000 in
set_option maxRecDepth 100000 in
theorem rfind_any (L : List Ent) (base : Nat) (v : Value) (nb : Int) (s : ByteArray) (w : World) (h : EntR w base v L) (hL : L.length ≤ 1000000) :
    Calls Tryd.prog 14 #[.agg #[v, .int .i64 nb], .string s] w fun e w' => e = .returned (.int .i64 (findE L s)) ∧ Gr [] w w' := by
  obtain ⟨ao, cap, hv⟩ := h.shape
  have H0 := Lib.hid (And.intro (h.gr0 ((Gr.refl [] w).alloc (Obj.cells #[v, .int .i64 nb] 27))) (And.intro (Holds.new w #[v, .int .i64 nb] 27) ((Gr.refl [] w).alloc (Obj.cells #[v, .int .i64 nb] 27))))
  clear h
  subst hv
  have hc0 : (⟨w.heap.size, 0, none⟩ : Addr) = ⟨w.heap.size, 0, none⟩ := rfl
  clear hc0
  go_enter Tryd.func14, Tryd.ntmps14
  go_upto_region 1 with fail
  generalize (w.alloc (Obj.cells #[.slice ao L.length cap, .int .i64 nb] 27)) = w1 at *
  obtain ⟨ob, hob⟩ : ∃ x, w.heap.size = x := ⟨_, rfl⟩
  rw [hob] at H0 ⊢
  clear hob
  have c0 := H0.out.2.1.cell 0
  go_upto_region 2 with fail
  go_loopw [5] (fun z wr => wr = w1 ∧ ∃ i : Nat, i ≤ L.length ∧ z = .int .i64 (i : Int) ∧ ∀ j (hj : j < L.length), j < i → L[j].1 ≠ s) (fun z _ => L.length - (intOf z).toNat)
  case atStart => exact ⟨rfl, 0, by omega, rfl, fun j _ hj => by omega⟩
  case round =>
    obtain ⟨hwr, i, hi, rfl, hno⟩ := hrel
    have HWr := Lib.hid hwr
    rw [← hwr] at H0 c0
    clear hwr
    by_cases hlt : i < L.length
    · as_aux_lemma =>
        obtain ⟨g, cap2, e, _, _, ca, _⟩ := H0.out.1.at' hlt
        injection e with e1 _ _
        subst e1
        have ib : (i : Int) < (L.length : Int) := by omega
        have ib0 : (0 : Int) ≤ (i : Int) := by omega
        obtain ⟨x, hx⟩ : ∃ x, x = L[i].1 := ⟨_, rfl⟩
        rw [← hx] at ca
        have HX := Lib.hid hx
        have HNo := Lib.hid hno
        have HI := Lib.hid hi
        clear hx hno
        by_cases hs : x = s
        · subst hs
          have HF := Lib.hid (findE_at hlt HX.out.symm fun j hj => HNo.out j (by omega) hj)
          clear HNo HX
          go_wp2_with fail
          go_ret
          rw [HF.out]
          exact ⟨rfl, H0.out.2.2⟩
        · have he : (x.toList == s.toList) = false := by
            rw [Lib.toList_data, Lib.toList_data, beq_eq_false_iff_ne]
            exact fun q => hs (seq17 q)
          have HS := Lib.hid hs
          clear hs
          go_wp2_with fail
          go_roundw
          case rel => exact ⟨HWr.out, i + 1, by omega, by go_num, fun j hj hji => by
            by_cases e : j = i
            · subst e; rw [← HX.out]; exact HS.out
            · exact HNo.out j hj (by omega)⟩
          case measure => simp [intOf]; omega
    · obtain rfl : i = L.length := by omega
      have HF := Lib.hid (findE_none (L := L) (s := s) fun x hx => by
        obtain ⟨j, hj, rfl⟩ := List.mem_iff_getElem.1 hx
        exact hno j hj hj)
      clear hno
      go_wp2_with fail
      go_ret
      rw [HF.out]
      exact ⟨rfl, H0.out.2.2⟩
/-- Below, above a name. -/
def ltP (s : ByteArray) (x : Ent) : Bool := decide (x.1.data.toList < s.data.toList)
def gtP (s : ByteArray) (x : Ent) : Bool := decide (s.data.toList < x.1.data.toList)
/-- The list behind a Put. -/
def insE (L : List Ent) (s : ByteArray) (n : Nat) : List Ent := L.filter (ltP s) ++ (s, n) :: L.filter (gtP s)
theorem insE_srt {F : ByteArray → Option Nat} {L : List Ent} (h : SrtF F L) (s : ByteArray) (n : Nat) : SrtF (updT F s (some n)) (insE L s n) := by
  unfold insE
  refine ⟨?_, fun y v => ?_⟩
  · rw [List.pairwise_append]
    refine ⟨h.up.filter _, List.pairwise_cons.2 ⟨fun x hx => ?_, h.up.filter _⟩, fun x hx y hy => ?_⟩
    · exact of_decide_eq_true (List.mem_filter.1 hx).2
    · have h1 := of_decide_eq_true (List.mem_filter.1 hx).2
      rcases List.mem_cons.1 hy with rfl | hy
      · exact h1
      · exact List.lt_trans h1 (of_decide_eq_true (List.mem_filter.1 hy).2)
  · unfold updT
    rw [List.mem_append, List.mem_cons, List.mem_filter, List.mem_filter]
    by_cases e : y = s
    · subst e
      rw [if_pos rfl]
      constructor
      · rintro (⟨_, q⟩ | q | ⟨_, q⟩)
        · exact absurd (of_decide_eq_true q) (List.lt_irrefl _)
        · injection q with _ q; rw [q]
        · exact absurd (of_decide_eq_true q) (List.lt_irrefl _)
      · intro q; injection q with q; exact .inr (.inl (by rw [q]))
    · rw [if_neg e]
      constructor
      · rintro (⟨q, _⟩ | q | ⟨q, _⟩)
        · exact (h.mem y v).1 q
        · injection q with q; exact absurd q e
        · exact (h.mem y v).1 q
      · intro q
        have hm := (h.mem y v).2 q
        rcases Classical.em (y.data.toList < s.data.toList) with c | c
        · exact .inl ⟨hm, (decide_eq_true c : ltP s (y, v) = true)⟩
        · refine .inr (.inr ⟨hm, (decide_eq_true ?_ : gtP s (y, v) = true)⟩)
          rcases Classical.em (s.data.toList < y.data.toList) with d | d
          · exact d
          · exact absurd (seq17 (List.le_antisymm (List.not_lt.1 d) (List.not_lt.1 c))) e
theorem SrtF.len {F : ByteArray → Option Nat} {L : List Ent} {N : List ByteArray} (h : SrtF F L) (ok : NmOk F N) : L.length = N.length := by
  have hnd : (L.map Prod.fst).Nodup := List.pairwise_map.2 (h.up.imp fun {x y} q e => by rw [e] at q; exact List.lt_irrefl _ q)
  have hp : (L.map Prod.fst).Perm N := (List.perm_ext_iff_of_nodup hnd ok.nd).2 fun s => by
    rw [List.mem_map, ok.mem s]
    constructor
    · rintro ⟨⟨y, v⟩, hy, rfl⟩; rw [(h.mem y v).1 hy]; rfl
    · intro q
      cases c : F s with
      | none => rw [c] at q; cases q
      | some v => exact ⟨(s, v), (h.mem s v).2 c, rfl⟩
  rw [← hp.length_eq, List.length_map]
/-- The list behind a Drop. -/
def remE (L : List Ent) (s : ByteArray) : List Ent := L.filter fun x => decide (x.1 ≠ s)
theorem remE_srt {F : ByteArray → Option Nat} {L : List Ent} (h : SrtF F L) (s : ByteArray) : SrtF (updT F s none) (remE L s) := by
  refine ⟨h.up.filter _, fun y v => ?_⟩
  unfold remE updT
  rw [List.mem_filter, h.mem y v]
  by_cases e : y = s
  · subst e; simp
  · simp [e]
theorem findE_of {F : ByteArray → Option Nat} {L : List Ent} (h : SrtF F L) (s : ByteArray) : (F s = none ∧ findE L s = -1) ∨ ∃ (i v : Nat) (hi : i < L.length), F s = some v ∧ findE L s = (i : Int) ∧ L[i] = (s, v) := by
  cases c : F s with
  | none =>
    refine .inl ⟨rfl, findE_none fun x hx e => ?_⟩
    have := (h.mem x.1 x.2).1 hx
    rw [e, c] at this
    cases this
  | some v =>
    obtain ⟨i, hi, e⟩ := List.mem_iff_getElem.1 ((h.mem s v).2 c)
    refine .inr ⟨i, v, hi, rfl, findE_at hi (by rw [e]) fun j hj q => ?_, e⟩
    have := List.pairwise_iff_getElem.1 h.up j i (by omega) hi hj
    rw [e, q] at this
    exact List.lt_irrefl _ this
end Go.Proofs.YtefiapmgdjlnnaaDoor

/-
  Layer 17 (dir), the document's Put.
-/
namespace Go.Proofs.YtefiapmgdjlnnaaDoor
open Go.RowKit Go.Shelf
set_option linter.unusedVariables false

/-- What a Put has put out behind the entries P. -/
def anyG (P : List Ent) (s : ByteArray) : Bool := P.any fun x => !ltP s x
def outE (P : List Ent) (s : ByteArray) (n : Nat) : List Ent := P.filter (ltP s) ++ ((if anyG P s then [(s, n)] else []) ++ P.filter (gtP s))
theorem ltP_gtP {s : ByteArray} {x : Ent} (h : ltP s x = true) : gtP s x = false := decide_eq_false fun q => List.lt_irrefl _ (List.lt_trans (of_decide_eq_true h) q)
theorem gtP_ltP {s : ByteArray} {x : Ent} (h : gtP s x = true) : ltP s x = false := decide_eq_false fun q => List.lt_irrefl _ (List.lt_trans (of_decide_eq_true h) q)
theorem ltP_self {s : ByteArray} {x : Ent} (h : x.1 = s) : ltP s x = false ∧ gtP s x = false := by
  unfold ltP gtP
  rw [h]
  exact ⟨decide_eq_false (List.lt_irrefl _), decide_eq_false (List.lt_irrefl _)⟩
section
variable {P : List Ent} {x : Ent} {s : ByteArray} {n : Nat}
theorem low_any (h : ∀ y ∈ P, ltP s y = true) : anyG P s = false := by
  unfold anyG
  rw [List.any_eq_false]
  intro y hy
  simp [h y hy]
theorem any_low (c : anyG P s = false) : ∀ y ∈ P, ltP s y = true := fun y hy => by
  have := List.any_eq_false.1 c y hy
  simpa using this
theorem low_gt (h : ∀ y ∈ P, ltP s y = true) : P.filter (gtP s) = [] := by
  rw [List.filter_eq_nil_iff]
  intro y hy
  simp [ltP_gtP (h y hy)]
theorem outE_all (L : List Ent) (s : ByteArray) (n : Nat) : (if anyG L s then outE L s n else outE L s n ++ [(s, n)]) = insE L s n := by
  unfold outE insE
  cases c : anyG L s with
  | true => simp
  | false => simp [low_gt (any_low c)]
theorem anyG_app : anyG (P ++ [x]) s = (anyG P s || !ltP s x) := by
  unfold anyG
  rw [List.any_append]
  simp
theorem all_low (hs : (P ++ [x]).Pairwise ltE) (h : gtP s x = false) : ∀ y ∈ P, ltP s y = true := fun y hy => by
  have h1 : y.1.data.toList < x.1.data.toList := (List.pairwise_append.1 hs).2.2 y hy x (by simp)
  refine decide_eq_true ?_
  rcases Classical.em (y.1.data.toList < s.data.toList) with c | c
  · exact c
  · have a1 := List.not_lt.1 (of_decide_eq_false h)
    have a2 := List.not_lt.1 c
    exact absurd h1 (List.not_lt.2 (List.le_trans a1 a2))
/-- An entry below. -/
theorem outE_low (hs : (P ++ [x]).Pairwise ltE) (h : ltP s x = true) : anyG P s = false ∧ anyG (P ++ [x]) s = false ∧ outE (P ++ [x]) s n = outE P s n ++ [x] := by
  have hl := all_low (s := s) hs (ltP_gtP h)
  have a1 := low_any hl
  have a2 : anyG (P ++ [x]) s = false := by rw [anyG_app, a1, h]; rfl
  refine ⟨a1, a2, ?_⟩
  unfold outE
  rw [a1, a2, List.filter_append, List.filter_append, low_gt hl]
  simp [h, ltP_gtP h]
/-- The entry itself. -/
theorem outE_eq (hs : (P ++ [x]).Pairwise ltE) (h : x.1 = s) : anyG P s = false ∧ anyG (P ++ [x]) s = true ∧ outE (P ++ [x]) s n = outE P s n ++ [(s, n)] := by
  obtain ⟨h1, h2⟩ := ltP_self h
  have hl := all_low (s := s) hs h2
  have a1 := low_any hl
  have a2 : anyG (P ++ [x]) s = true := by rw [anyG_app, a1, h1]; rfl
  refine ⟨a1, a2, ?_⟩
  unfold outE
  rw [a1, a2, List.filter_append, List.filter_append, low_gt hl]
  simp [h1, h2]
/-- An entry above. -/
theorem outE_gt (h : gtP s x = true) : anyG (P ++ [x]) s = true ∧ outE (P ++ [x]) s n = (if anyG P s then outE P s n else outE P s n ++ [(s, n)]) ++ [x] := by
  have h1 := gtP_ltP h
  have a2 : anyG (P ++ [x]) s = true := by rw [anyG_app, h1]; simp
  refine ⟨a2, ?_⟩
  cases c : anyG P s with
  | true =>
    unfold outE
    rw [a2, c, List.filter_append, List.filter_append]
    simp [h, h1]
  | false =>
    unfold outE
    rw [a2, c, List.filter_append, List.filter_append, low_gt (any_low c)]
    simp [h, h1]
end
theorem outE_step {P : List Ent} {x : Ent} {s : ByteArray} {n : Nat} (hs : (P ++ [x]).Pairwise ltE) : outE (P ++ [x]) s n = (if anyG P s = false ∧ ltP s x = false then outE P s n ++ [(s, n)] else outE P s n) ++ (if x.1 = s then [] else [x]) := by
  by_cases h : x.1 = s
  · obtain ⟨a1, a2, a3⟩ := outE_eq (n := n) hs h
    rw [a3, if_pos ⟨a1, (ltP_self h).1⟩, if_pos h, List.append_nil]
  · rw [if_neg h]
    cases c : ltP s x with
    | true =>
      obtain ⟨a1, a2, a3⟩ := outE_low (n := n) hs c
      rw [a3, if_neg (by simp)]
    | false =>
      have hg : gtP s x = true := by
        refine decide_eq_true ?_
        rcases Classical.em (s.data.toList < x.1.data.toList) with q | q
        · exact q
        · exact absurd (seq17 (List.le_antisymm (List.not_lt.1 q) (List.not_lt.1 (of_decide_eq_false c)))) h
      rw [(outE_gt (n := n) hg).2]
      cases anyG P s <;> simp
theorem split_len (s : ByteArray) : ∀ P : List Ent, (P.filter (ltP s)).length + (P.filter (gtP s)).length ≤ P.length
  | [] => by simp
  | y :: P => by
    have ih := split_len s P
    rw [List.filter_cons, List.filter_cons, List.length_cons]
    cases c : ltP s y with
    | true => rw [ltP_gtP c, if_pos rfl, if_neg (by simp), List.length_cons]; omega
    | false =>
      rw [if_neg (by simp)]
      cases d : gtP s y with
      | true => rw [if_pos rfl, List.length_cons]; omega
      | false => rw [if_neg (by simp)]; omega
theorem outE_len (P : List Ent) (s : ByteArray) (n : Nat) : (outE P s n).length ≤ P.length + 1 := by
  unfold outE
  rw [List.length_append, List.length_append]
  have := split_len s P
  split <;> simp only [List.length_cons, List.length_nil] <;> omega
/-- Put at work. -/
structure RpI (w wr : World) (base b0 rb ob : Nat) (v0 v : Value) (nb : Int) (L O : List Ent) : Prop where
  gr : Gr [] w wr
  old : EntR wr base v0 L
  bx : Holds wr b0 #[v0, .int .i64 nb] 27
  rs : Holds wr rb #[.slice none 0 0, .int .i64 0] 27
  out : Holds wr ob #[v, .int .i64 nb] 27
  own : EntR wr (ob + 1) v O
  lo : w.heap.size ≤ b0 ∧ b0 < rb ∧ rb < ob
  lv : ∀ g, v0.ownBlock = some g → g < w.heap.size
section
variable {w wr W w7 : World} {base b0 rb ob : Nat} {v0 v v' : Value} {nb : Int} {L O : List Ent} {x : Ent}
theorem RpI.gr0 (h : RpI w wr base b0 rb ob v0 v nb L O) (g : Gr [] wr W) : RpI w W base b0 rb ob v0 v nb L O := ⟨h.gr.next0 g, h.old.gr0 g, h.bx.gr0 g, h.rs.gr0 g, h.out.gr0 g, h.own.gr0 g, h.lo, h.lv⟩
theorem RpI.snoc (h : RpI w wr base b0 rb ob v0 v nb L O) (gA : Gr [] wr W) (hgrow : W.grownBy w7 v.ownBlock) (hown : w7.ownsRow (ob + 1) 41 2 v' (O.length + 1) (flatE O ++ [.string x.1, .int .i64 (x.2 : Int)])) : RpI w (w7.setCell ⟨ob, 0, none⟩ v') base b0 rb ob v0 v' nb L (O ++ [x]) := by
  obtain ⟨l1, l2, l3⟩ := h.lo
  have hv : ∀ b, b ∈ v.ownBlock.toList → ob + 1 ≤ b := fun b hb => (h.own.lt b (by simpa using hb)).1
  have g2 := Gr.ofGrown hgrow
  have hd := h.gr0 gA
  have g3 : Gr [ob] w7 (w7.setCell ⟨ob, 0, none⟩ v') := (Gr.refl _ _).setCell (p := ⟨ob, 0, none⟩) (.inl (List.mem_singleton.2 rfl)) _
  have k : ∀ b, b ≤ ob → b ∉ v.ownBlock.toList := fun b hb e => by have := hv b e; omega
  have o2 := hd.out.gr g2 (k ob (Nat.le_refl _))
  refine ⟨(hd.gr.nextN g2 fun b hb => .inr (by have := hv b hb; omega)).nextN g3 fun b hb => .inr (by rw [List.mem_singleton] at hb; omega),
    (hd.old.gr g2 fun b hb e => by have := h.lv b hb; have := hv b e; omega).gr g3 fun b hb e => by have := h.lv b hb; rw [List.mem_singleton] at e; omega,
    (hd.bx.gr g2 (k b0 (by omega))).gr g3 fun e => by rw [List.mem_singleton] at e; omega,
    (hd.rs.gr g2 (k rb (by omega))).gr g3 fun e => by rw [List.mem_singleton] at e; omega, ?_, ?_, h.lo, h.lv⟩
  · have r := o2.set 0 v'
    simpa using r
  · have e : flatE (O ++ [x]) = flatE O ++ [.string x.1, .int .i64 (x.2 : Int)] := by rw [flatE_app]; rfl
    unfold EntR
    rw [e, List.length_append]
    exact own_gr hown g3 fun b hb q => by rw [List.mem_singleton] at q; have := (World.ownsRow.lt hown b hb).1; omega
end
theorem RpI.held {w wr W w7 : World} {base b0 rb ob : Nat} {v0 v : Value} {nb : Int} {L O : List Ent} (h : RpI w wr base b0 rb ob v0 v nb L O) (gA : Gr [] wr W) (hgrow : W.grownBy w7 v.ownBlock) : Holds w7 ob #[v, .int .i64 nb] 27 :=
  (h.gr0 gA).out.gr (Gr.ofGrown hgrow) fun e => by have := (h.own.lt ob (by simpa using e)).1; omega
theorem infoR17 : (Tryd.prog.info? 41).map (fun i => (i.zero, i.size, i.bytes)) = some (some (.agg #[.string ⟨#[]⟩, .int .i64 0]), 2, 24) := by kernel_rfl
end Go.Proofs.YtefiapmgdjlnnaaDoor
