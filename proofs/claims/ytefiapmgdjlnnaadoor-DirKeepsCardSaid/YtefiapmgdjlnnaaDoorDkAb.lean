/-
  DkAb: DiK, FrameS, FrameT.
-/
import Derived.Test.YtefiapmgdjlnnaaDoorDnAa
import Derived.Test.YtefiapmgdjlnnaaDoorDnAb
import Derived.Test.YtefiapmgdjlnnaaDoorDnAc
import Derived.Test.YtefiapmgdjlnnaaDoorDnAd
import Derived.Test.YtefiapmgdjlnnaaDoorDnAe
import Derived.Test.YtefiapmgdjlnnaaDoorDnAf
import Derived.Test.YtefiapmgdjlnnaaDoorDnAg
import Derived.Test.YtefiapmgdjlnnaaDoorDnAh
import Derived.Test.YtefiapmgdjlnnaaDoorDnAi
import Derived.Test.YtefiapmgdjlnnaaDoorDkAa
import Derived.Test.YtefiapmgdjlnnaaDoorRows
import Derived.WalkKit
import Derived.ProofKit
import Derived.OpenShut
import Derived.SizedLaws
import Derived.ChangeSlices
import Derived.Deep.Slices
import Derived.Deep.Grids

set_option linter.unusedVariables false

/-
  Layer 17 (dir): List.
-/
namespace Go.Proofs.YtefiapmgdjlnnaaDoor
open Go.RowKit Go.Shelf
set_option linter.unusedVariables false

/-- The cells of entries. -/
def flatE : List (ByteArray × Nat) → List Value
  | [] => []
  | x :: L => .string x.1 :: .int .i64 (x.2 : Int) :: flatE L
theorem flatE_app : ∀ (L M : List (ByteArray × Nat)), flatE (L ++ M) = flatE L ++ flatE M
  | [], M => rfl
  | x :: L, M => by simp only [flatE, List.cons_append, flatE_app L M]
theorem flatE_get : ∀ (L : List (ByteArray × Nat)) (t : Nat), t < L.length * 2 → (flatE L)[t]? = some ((encE (L[t / 2]!))[t % 2]!)
  | [], t, h => by simp at h
  | x :: L, 0, h => rfl
  | x :: L, 1, h => rfl
  | x :: L, t + 2, h => by
    have ih := flatE_get L t (by simp only [List.length_cons] at h; omega)
    rw [show (t + 2) / 2 = t / 2 + 1 by omega, show (t + 2) % 2 = t % 2 by omega]
    simp only [flatE, List.getElem?_cons_succ]
    rw [ih]
    rfl
theorem holdsE {w : World} {base g n cap : Nat} {L : List (ByteArray × Nat)} (h : w.ownsRow base 44 2 (.slice (some ⟨g, 0, none⟩) n cap) n (flatE L)) (hn : n = L.length) : Go.Sort.HoldsK encE 2 w g 0 L.toArray := by
  intro j hj
  rw [Go.Sort.size_flatK] at hj
  have hj' : j < L.length * 2 := by simpa using hj
  refine ⟨?_, World.ownsRow.frozenAt h _⟩
  rw [Nat.zero_add, World.ownsRow.cellAt h j (by omega), flatE_get L j hj', Go.Sort.get_flatK _ _ _ _ hj]
  simp
/-- Entries in memory. -/
def EntAt (w : World) (g : Nat) (L : List (ByteArray × Nat)) : Prop := ∀ i (h : i < L.length), w.cell? ⟨g, i * 2, none⟩ = some (.string L[i].1) ∧ w.cell? ⟨g, i * 2 + 1, none⟩ = some (.int .i64 (L[i].2 : Int))
theorem entAt_of {w : World} {g : Nat} {d : Array (ByteArray × Nat)} (h : Go.Sort.HoldsK encE 2 w g 0 d) : EntAt w g d.toList := fun i hi => by
  have hi' : i < d.size := by simpa using hi
  have h0 := (Go.Sort.HoldsK.cell h (c := 0) hi' (by omega)).1
  have h1 := (Go.Sort.HoldsK.cell h (c := 1) hi' (by omega)).1
  rw [getElem!_pos d i hi', show 0 + i * 2 + 0 = i * 2 by omega] at h0
  rw [getElem!_pos d i hi', show 0 + i * 2 + 1 = i * 2 + 1 by omega] at h1
  exact ⟨by simpa [encE] using h0, by simpa [encE] using h1⟩
/-- The names and numbers, by rising names. -/
structure SrtF (F : ByteArray → Option Nat) (L : List (ByteArray × Nat)) : Prop where
  up : L.Pairwise fun x y => x.1.data.toList < y.1.data.toList
  mem : ∀ s v, (s, v) ∈ L ↔ F s = some v
def entN (F : ByteArray → Option Nat) (V : List ByteArray) : List (ByteArray × Nat) := V.map fun s => (s, (F s).getD 0)
theorem srt_of {F : ByteArray → Option Nat} {N V : List ByteArray} {L : List (ByteArray × Nat)} (ok : NmOk F N) (hV : V.Perm N) (hp : L.Perm (entN F V)) (hs : L.Pairwise fun x y => ¬ y.1.data.toList < x.1.data.toList) : SrtF F L := by
  have hnd : (L.map Prod.fst).Nodup := by
    have e : (entN F V).map Prod.fst = V := by unfold entN; rw [List.map_map]; simp [Function.comp_def]
    have := hp.map Prod.fst
    rw [e] at this
    exact (this.trans hV).nodup_iff.2 ok.nd
  have hne : L.Pairwise fun x y => x.1 ≠ y.1 := List.pairwise_map.1 hnd
  refine ⟨(hs.and hne).imp fun {x y} h => ?_, fun s v => ?_⟩
  · rcases Classical.em (x.1.data.toList < y.1.data.toList) with q | q
    · exact q
    · exact absurd (seq17 (List.le_antisymm (List.not_lt.1 h.1) (List.not_lt.1 q))) h.2
  · rw [hp.mem_iff]
    unfold entN
    rw [List.mem_map]
    constructor
    · rintro ⟨y, hy, e⟩
      injection e with e1 e2
      subst e1
      have := (ok.mem y).1 (hV.mem_iff.1 hy)
      cases c : F y with
      | none => rw [c] at this; cases this
      | some u => rw [c] at e2; rw [← e2]; rfl
    · intro h
      exact ⟨s, hV.mem_iff.2 ((ok.mem s).2 (by rw [h]; rfl)), by rw [h]; rfl⟩
/-- A slice of cells is no iterator, and no map. -/
theorem own_ran {P : Program} {k e et : TypeId} {α : Type} {E : EltLaw P e α} {w : World} {b r n m size base cnt : Nat} {v : Value} {xs : List Value} {f : ByteArray → Option α} {left : ByteArray → Bool} (h : w.ownsRow base et size v m xs) (hr : RanT E k w b r n f left cnt) : ∀ x, v.ownBlock = some x → x ≠ r := by
  intro x hx e
  subst e
  obtain ⟨D, L, ⟨es, clock, since, seen, c0, q1, q2, q3, q4, q5, q6⟩, _⟩ := hr
  rcases h.2 with ⟨rfl, _⟩ | ⟨g, cap, cur, rfl, _, hh, _⟩
  · cases hx
  · obtain rfl : g = x := by simpa [Value.ownBlock] using hx
    rw [q5] at hh
    injection hh with hh
    cases hh
theorem infoE17 : (Tryd.prog.info? 44).map (fun i => (i.zero, i.size, i.bytes)) = some (some (.agg #[.string ⟨#[]⟩, .int .i64 0]), 2, 24) := by kernel_rfl
theorem makeE_run (c : Nat) (hc : c ≤ 1000000) : ∃ cur : Array Value, cur.size = c * 2 ∧ ∀ W : World, (Instr.makeSlice 49 (.int .i64 0) (.int .i64 (c : Int))).run Tryd.prog W = .ok (.slice (some ⟨W.heap.size, 0, none⟩) 0 c) (W.alloc (.cells cur 44)) := by
  obtain ⟨i0, h0, hz0, hz1, hz2⟩ := info_parts infoE17
  refine ⟨madeCells (Value.cells (.agg #[.string ⟨#[]⟩, .int .i64 0])) (c * 2), ?_, fun W => ?_⟩
  · simp [madeCells, Value.cells]
  · have hbm2 : (i0.bytes : Int) * ((c : Nat) : Int) ≤ 281474976710656 := by rw [hz2]; omega
    have r := run_make (P := Tryd.prog) W 49 44 i0 _ Tryd.underlying49 h0 hz0 .i64 .i64 0 (c : Int) (by omega) (by omega) hbm2 (by omega)
    simp only [Int.toNat_natCast, hz1, Int.toNat_zero] at r
    exact r
/-- List at work. -/
structure LsR (w wr : World) (v : Value) (F : ByteArray → Option Nat) (V : List ByteArray) : Prop where
  own : wr.ownsRow w.heap.size 44 2 v V.length (flatE (entN F V.reverse))
  gr : Gr [] w wr
  nn : v ≠ .slice none 0 0
structure LsI (w wr : World) (A : DiA) (v : Value) (F : ByteArray → Option Nat) (N V : List ByteArray) (k r : Nat) (left : ByteArray → Bool) (g : Nat) : Prop where
  ls : LsR w wr v F V
  mv : MvD N V A.nb k left
  ran : RanT niE 9 wr (A.mb k) r (cntB A.nb k N) (atB A.nb k F) left g
  lr : w.heap.size ≤ r
theorem LsR.take {w wr w2 w3 : World} {v v' : Value} {F : ByteArray → Option Nat} {V : List ByteArray} {z : ByteArray} {c : Nat} (h : LsR w wr v F V) (hz : F z = some c) (g2 : Gr [] w w2) (hl : ∀ x, v.ownBlock = some x → w.heap.size ≤ x) (hgrow : w2.grownBy w3 v.ownBlock) (hown : w3.ownsRow w.heap.size 44 2 v' (V.length + 1) (flatE (entN F V.reverse) ++ [.string z, .int .i64 (c : Int)])) (hn : v' ≠ .slice none 0 0) : LsR w w3 v' F (z :: V) := by
  refine ⟨?_, g2.grown hgrow fun x hx => .inr (hl x hx), hn⟩
  have e : flatE (entN F (z :: V).reverse) = flatE (entN F V.reverse) ++ [.string z, .int .i64 (c : Int)] := by
    rw [List.reverse_cons]
    unfold entN
    rw [List.map_append, flatE_app]
    simp only [List.map_cons, List.map_nil, flatE, hz, Option.getD_some]
  rw [e]
  exact hown
set_option maxHeartbeats 8000000 in
set_option maxRecDepth 100000 in
theorem dlist_any {w : World} {A : DiA} {F : ByteArray → Option Nat} {N : List ByteArray} (h : DiIs w A F N) : Calls Tryd.prog 22 #[.pointer (some ⟨A.db, 0, none⟩)] w fun e w' => ∃ (g cap : Nat) (L : List (ByteArray × Nat)), e = .returned (.slice (some ⟨g, 0, none⟩) L.length cap) ∧ w.heap.size ≤ g ∧ g < w'.heap.size ∧ EntAt w' g L ∧ SrtF F L ∧ L.length = N.length ∧ Gr [] w w' := by
  have undStr := Tryd.underlying9
  have undMap : Tryd.prog.underlying 59 = some (.map 9 3) := Tryd.underlying59
  obtain ⟨i0, hi, hz0, hz1, hz2⟩ := info_parts infoE17
  have hnb := h.nb
  obtain ⟨cur, hcur, hmk⟩ := makeE_run N.length (by omega)
  have c0 := h.hd.cell 0
  have c1 := h.hd.cell 1
  have HH := Lib.hid h
  have H1 := Lib.hid (show LsR w (w.alloc (.cells cur 44)) (.slice (some ⟨w.heap.size, 0, none⟩) 0 N.length) F [] from
    ⟨World.ownsRow_made w cur N.length (Nat.le_refl _) (by unfold maxLen; omega) hcur, (Gr.refl _ w).alloc _, by simp⟩)
  have c0a := (HH.out.gr0 ((Gr.refl [] w).alloc (Obj.cells cur 44))).hd.cell 0
  clear h hcur
  go_enter Tryd.func22, Tryd.ntmps22
  go_upto_region 4 with fail
  generalize (w.alloc (.cells cur 44)) = w1 at *
  obtain ⟨lb, hlb⟩ : ∃ x, w.heap.size = x := ⟨_, rfl⟩
  rw [hlb] at H1 ⊢
  clear hlb hmk c0 c1
  go_upto_region 5 with fail
  go_loopw [3, 20] (fun v z wr => ∃ (k : Nat) (V : List ByteArray), k ≤ A.nb ∧ z = .int .i64 (k : Int) ∧ LsR w wr v F V ∧ MvB N V A.nb k) (fun _ z _ => A.nb - (intOf z).toNat)
  case atStart => exact ⟨0, [], by omega, rfl, H1.out, List.nodup_nil, fun s => by simp⟩
  case round =>
    clear H1
    obtain ⟨k, V, hk, rfl, S, M⟩ := hrel
    have HS := Lib.hid S
    have HM := Lib.hid M
    clear S M
    by_cases hlt : k < A.nb
    · have H2 := HH.out.gr0 HS.out.gr
      have ck := H2.bk.at' k hlt
      have HMo := Lib.hid (H2.bk.mp k hlt)
      have HLo := Lib.hid (HH.out.bk.mp k hlt).lt
      have b1 : (k : Int) < (A.nb : Int) := by omega
      have b2 : (0 : Int) ≤ (k : Int) := by omega
      clear H2
      go_wp2_with (at_range; refine wp_rangeT rfl _ rfl rfl HMo.out undStr undMap ?_; intro w2 cnt R2 G2 hs2)
      have HI := Lib.hid (show ∃ r, r = wr.heap.size ∧ LsI w w2 A u3 F N V k r (fun z => (atB A.nb k F z).isSome) cnt from
        ⟨_, rfl, ⟨own_gr0 HS.out.own G2, HS.out.gr.next0 G2, HS.out.nn⟩, HM.out.start HH.out.ok, R2, HS.out.gr.size⟩)
      clear R2 G2 hs2 ck HMo b1 b2 HS HM
      generalize wr.heap.size = r at *
      obtain ⟨r', rfl, I⟩ := HI.out
      have HI := Lib.hid I
      clear I
      go_frame
      go_loopg [3] cnt (fun g v wr => ∃ V left, LsI w wr A v F N V k r' left g)
      case atStart => exact ⟨_, _, HI.out⟩
      case round =>
        clear HI
        obtain ⟨V, left, Q⟩ := hrel
        have HQ := Lib.hid Q
        clear Q
        go_wp2_with (at_next; refine wp_nextT rfl _ rfl rfl HQ.out.ran undStr ?_ ?_)
        · intro hdone
          have HD := Lib.hid (And.intro HQ.out.ls (HQ.out.mv.done HH.out.ok hdone))
          clear hdone HQ
          go_wp2_with fail
          go_roundw
          case rel => exact ⟨k + 1, _, by omega, by go_num, HD.out.1, HD.out.2⟩
          case measure => simp [intOf]; omega
        · intro z c w3 cnt' hz hl hf R1 hlt2 G1 hs1 hen
          obtain ⟨q1, q2, q3⟩ := HQ.out.mv.step HH.out.ok hl hf
          have he2 : (Instr.entry (.pointer (some ⟨r', 0, none⟩))).run Tryd.prog w3 = .ok (.tuple #[.string z, .int .i64 (c : Int)]) w3 := hen
          have hnr := own_ran HQ.out.ls.own HQ.out.ran
          have hown := own_gr HQ.out.ls.own G1 fun x hx e => hnr x hx (List.mem_singleton.1 e)
          have hg3 := HQ.out.ls.gr.nextN G1 fun x hx => .inr (by rw [List.mem_singleton] at hx; have := HQ.out.lr; omega)
          have HA5 := Lib.hid (hown.alloc (Obj.cells #[.string z, .int .i64 (c : Int)] 44))
          have HN5 := Lib.hid (Go.Proofs.YtefiapmgdjlnnaaDoor.Holds.new w3 #[.string z, .int .i64 (c : Int)] 44)
          have one5 : ∀ u ∈ [Value.string z, Value.int .i64 (c : Int)], u.oneCell' = true := by simp [Value.oneCell']
          have HZ := Lib.hid (And.intro q1 (And.intro q2 (And.intro q3 (And.intro hg3 (And.intro R1 hlt2)))))
          have hvl : V.length ≤ N.length := nodup_sub HQ.out.mv.nd fun s hs => ((HQ.out.mv.mem s).1 hs).1
          have hsz3 := hg3.size
          clear q1 q2 q3 hg3 R1 hlt2 hl hf G1 hs1 hen hown hnr
          go_wp2_with (at_builtin; refine wpList_append_own _ rfl _ _ 49 rfl w.heap.size 44 i0 _ 2 24 Tryd.underlying49 hi hz0 hz1 hz2 rfl (by decide) _ _ _ rfl HA5.out ⟨w3.heap.size, 0, none⟩ 1 1 [.string z, .int .i64 (c : Int)] rfl rfl ?c1 ?c2 ?c3 ?c4 ?c5 ?_)
          case c1 =>
            intro a u ha
            match a, ha with
            | 0, ha => simp at ha; subst ha; simp [Addr.add]
            | 1, ha => simp at ha; subst ha; simp [Addr.add]
          case c2 => exact one5
          case c3 => unfold maxLen; omega
          case c4 => omega
          case c5 => rw [World.size_alloc]; omega
          intro v' w5 hown5 hgrow hnn
          have HN2 := Lib.hid (show LsI w w5 A v' F N (z :: V) k r' (fun y => left y && decide (y ≠ z)) cnt' from by
            have hl5 : ∀ x, u3.ownBlock = some x → w.heap.size ≤ x := fun x hx => (HQ.out.ls.own.lt x hx).1
            have ls := HQ.out.ls.take HZ.out.1 (HZ.out.2.2.2.1.alloc _) hl5 hgrow hown5 hnn
            have R4 := HZ.out.2.2.2.2.1.gr0 ((Gr.refl [] w3).alloc (Obj.cells #[.string z, .int .i64 (c : Int)] 44))
            have R5 := R4.gr (Gr.ofGrown hgrow) (fun e => by
              have := hl5 _ (by simpa using e)
              have := HLo.out
              omega) (fun e => own_ran HQ.out.ls.own HQ.out.ran _ (by simpa using e) rfl)
            exact ⟨ls, HZ.out.2.2.1, by simpa using R5, HQ.out.lr⟩)
          clear hown5 hgrow hnn HA5 HN5 he2
          go_wp2_with fail
          go_roundg cnt'
          case measure => exact HZ.out.2.2.2.2.2
          case rel => exact ⟨_, _, HN2.out⟩
    · obtain rfl : k = A.nb := by omega
      have hp := HM.out.all HH.out.ok fun e => by omega
      obtain ⟨gb, cap, hv, hgl, hgh⟩ : ∃ gb cap, u3 = .slice (some ⟨gb, 0, none⟩) V.length cap ∧ w.heap.size ≤ gb ∧ gb < wr.heap.size := by
        rcases HS.out.own.2 with ⟨h0, _⟩ | ⟨gb, cap, cur, hv, hb, hg, _⟩
        · exact absurd h0 HS.out.nn
        · exact ⟨gb, cap, hv, hb, (Array.getElem?_eq_some_iff.1 hg).1⟩
      subst hv
      have hel : V.length = (entN F V.reverse).length := by unfold entN; simp
      have hH := holdsE HS.out.own hel
      have HSo := Lib.hid (sortE gb cap (entN F V.reverse).toArray wr hH hgh (by rw [List.size_toArray, ← hel, hp.length_eq]; omega))
      rw [List.size_toArray, ← hel] at HSo
      have HP := Lib.hid (And.intro hp (And.intro hgl HS.out.gr))
      have HG5 := Lib.hid hgh
      clear hH hel hp hgl hgh HS HM hlt hk
      go_wp2_with fail
      refine HSo.out.mono ?_
      rintro e w6 ⟨rfl, d', h1, h2, h3, h4, h5⟩
      have hr : V.reverse.Perm N := (List.reverse_perm V).trans HP.out.1
      have hlen : d'.toList.length = V.length := by rw [Array.length_toList, h1]
      have HL := Lib.hid (show w.heap.size ≤ gb ∧ gb < w6.heap.size ∧ EntAt w6 gb d'.toList ∧ SrtF F d'.toList ∧ d'.toList.length = N.length ∧ Gr [] w w6 from
        ⟨HP.out.2.1, Nat.lt_of_lt_of_le HG5.out h5.size, entAt_of h4, srt_of HH.out.ok hr (by simpa using h2) h3, by rw [hlen, HP.out.1.length_eq], HP.out.2.2.nextN h5 fun x hx => .inr (by rw [List.mem_singleton] at hx; have := HP.out.2.1; omega)⟩)
      have hlen' := Lib.hid hlen
      clear h1 h2 h3 h4 h5 hr hlen HSo
      go_wp2_with fail
      go_ret
      rw [← hlen'.out]
      exact ⟨gb, cap, d'.toList, rfl, HL.out⟩
end Go.Proofs.YtefiapmgdjlnnaaDoor

/-
  Slices that come in as arguments of a law, opened: of integers.
-/
namespace Go.Proofs.YtefiapmgdjlnnaaDoor
open Go.ChangeShapes Go.WideShapes Go.ChangeAt Go.RowKit

/-- The slice v reads in w as the integers xs. -/
def SlI (k : IntKind) (w : World) (v : Value) (xs : List Int) : Prop :=
  (∃ ao cap, v = .slice ao 0 cap ∧ xs = [] ∧ (ao = none → cap = 0) ∧ cap ≤ maxLen) ∨
  ∃ b off cap, v = .slice (some ⟨b, off, none⟩) xs.length cap ∧ 0 < xs.length ∧ xs.length ≤ cap ∧ cap ≤ maxLen ∧ b < w.heap.size ∧ ∀ i x, xs[i]? = some x → w.cell? ⟨b, off + i, none⟩ = some (.int k x)

theorem open_il {H : Type} {enc : TypeId × Value → H} {P : Program} {w : World} {b0 base : Nat} {held : Bool} {t e : TypeId} {k : IntKind} {v : Value} {d : DataW H} {p : List MemPlace}
    (ht : P.underlying t = some (.slice e)) (he : P.underlying e = some (.int k)) (hc : P.cellsOf e = 1)
    (hv : Value.okWide P w .any b0 t v) (h : DataW.Trod enc P w base (fun _ => true) held t v d p) :
    ∃ xs : List Int, SlI k w v xs ∧ ∀ x ∈ xs, (Lit.int k x).wf = true := by
  obtain ⟨a0, len, cap, rfl⟩ := okWide_slice ht hv
  obtain ⟨fuel, hf⟩ := h
  rcases open_ints ht he hc hf with ⟨hcs, hx⟩ | ⟨a, len', cap', zs, hcs, _, hl, hm, hz, hx, hcell, hwz⟩
  · simp [Value.cells] at hcs
    obtain ⟨rfl, rfl, rfl⟩ := hcs
    exact ⟨[], .inl ⟨none, 0, rfl, rfl, fun _ => rfl, Nat.zero_le _⟩, fun x hx => by cases hx⟩
  · simp [Value.cells] at hcs
    obtain ⟨rfl, rfl, rfl⟩ := hcs
    simp only [if_true] at hz
    by_cases h0 : len = 0
    · subst h0
      exact ⟨[], .inl ⟨some a, cap, rfl, rfl, (fun e => by cases e), hm⟩, (fun x hx => by cases hx)⟩
    · obtain ⟨b, off, spot⟩ := a
      have hspot : spot = none := by simpa [Addr.add] using World.cell?_spot (hcell 0 (by omega))
      subst hspot
      have hlen : (zs.take len).length = len := by simp; omega
      refine ⟨zs.take len, .inr ⟨b, off, cap, by rw [hlen], by omega, by omega, hm, ?_, fun i x hi => ?_⟩, fun x hx => hwz x (List.mem_of_mem_take hx)⟩
      · have := block_lt_of_cell (hcell 0 (by omega))
        simpa [Addr.add] using this
      · have hil : i < len := by
          have := (List.getElem?_eq_some_iff.1 hi).1
          rw [hlen] at this
          exact this
        have hc1 := hcell i (by omega)
        rw [add_plain] at hc1
        rw [hc1]
        rw [List.getElem?_take_of_lt hil] at hi
        simp [List.getD, hi]

end Go.Proofs.YtefiapmgdjlnnaaDoor

/-
  Arguments of a law, opened: slices of bools, arrays of bools, arrays of arrays of integers.
-/
namespace Go.Proofs.YtefiapmgdjlnnaaDoor
open Go.ChangeShapes Go.WideShapes Go.ChangeAt Go.RowKit Go.Deep

/-- The slice v reads in w as the bools kp below kl. -/
def SlB (w : World) (v : Value) (kl : Nat) (kp : Nat → Bool) : Prop := ∃ ao kc, v = .slice ao kl kc ∧ (∀ j, j < kl → ∃ b o, ao = some ⟨b, o, none⟩ ∧ b < w.heap.size ∧ w.cell? ⟨b, o + j, none⟩ = some (.bool (kp j))) ∧ (∀ j, kl ≤ j → kp j = false) ∧ kl ≤ maxLen ∧ kl ≤ kc ∧ kc ≤ maxLen ∧ (ao = none → kc = 0)
theorem open_bl_raw {H : Type} {enc : TypeId × Value → H} {P : Program} {w : World} {base : Nat} {held : Bool} {t e : TypeId} {cs : List Value} {x : DataW H × List MemPlace} {fuel : Nat}
    (ht : P.underlying t = some (.slice e)) (he : P.underlying e = some .bool) (hc : P.cellsOf e = 1) (h : DataW.trod enc P w base (fun _ => true) held fuel t cs = some x) :
    ∃ v kl kp, cs = [v] ∧ SlB w v kl kp := by
  rcases open_bools ht he hc h with ⟨hcs, hx⟩ | ⟨a, len, cap, B, hcs, hb, hl, hm, hx, hcell⟩
  · exact ⟨_, 0, fun _ => false, hcs, none, 0, rfl, (fun j hj => by omega), (fun _ _ => rfl), Nat.zero_le _, Nat.le_refl _, Nat.zero_le _, fun _ => rfl⟩
  · refine ⟨_, len, fun j => if j < len then B j else false, hcs, some a, cap, rfl, fun j hj => ?_, fun j hj => if_neg (by omega), by omega, hl, hm, fun e => by cases e⟩
    obtain ⟨b, off, spot⟩ := a
    have hspot : spot = none := by simpa [Addr.add] using World.cell?_spot (hcell 0 (by omega))
    subst hspot
    have hc1 := hcell j (by omega)
    rw [add_plain] at hc1
    refine ⟨b, off, rfl, ?_, ?_⟩
    · have := block_lt_of_cell hc1
      exact this
    · dsimp only; rw [hc1, if_pos hj]
theorem open_bl {H : Type} {enc : TypeId × Value → H} {P : Program} {w : World} {base : Nat} {held : Bool} {t e : TypeId} {v : Value} {b0 : Nat} {d : DataW H} {p : List MemPlace}
    (ht : P.underlying t = some (.slice e)) (he : P.underlying e = some .bool) (hc : P.cellsOf e = 1) (hv : Value.okWide P w .any b0 t v) (h : DataW.Trod enc P w base (fun _ => true) held t v d p) :
    ∃ kl kp, SlB w v kl kp := by
  obtain ⟨a0, len, cap, rfl⟩ := okWide_slice ht hv
  obtain ⟨fuel, hf⟩ := h
  obtain ⟨v', kl, kp, hcs, hs⟩ := open_bl_raw ht he hc hf
  simp [Value.cells] at hcs
  subst hcs
  exact ⟨kl, kp, hs⟩

end Go.Proofs.YtefiapmgdjlnnaaDoor
