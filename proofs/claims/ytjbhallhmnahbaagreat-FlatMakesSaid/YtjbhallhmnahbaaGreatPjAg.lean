/-
  PjAg: PmG, PmH, PmL, PmW, PmX.
-/
import Derived.Test.YtjbhallhmnahbaaGreatPjAf
import Derived.Laws.AppendOwn
import Derived.Shelf.SlIterI.Nil
import Derived.Shelf.SortM.Plain
import Derived.Shelf.SortM.SortNone
import Derived.Ground.GgzProg
import Derived.Ground.SlgmProg

set_option linter.unusedVariables false

/-
  pm: Fence.
-/
namespace Go.Proofs.YtjbhallhmnahbaaGreat
open Go.RowKit

theorem addp (g j : Nat) : (⟨g, 0, none⟩ : Addr).add j = ⟨g, j, none⟩ := by unfold Addr.add; split <;> simp_all
def iW (k : Nat) : Value := .int .i64 (k : Int)
theorem nodup_len (N : Nat) : ∀ (L : List Nat), L.Nodup → (∀ x ∈ L, x < N) → L.length ≤ N := by
  induction N with
  | zero =>
    intro L _ h
    cases L with
    | nil => exact Nat.le_refl _
    | cons x _ => exact absurd (h x (by simp)) (by omega)
  | succ N ih =>
    intro L hn h
    by_cases hm : N ∈ L
    · have h1 := ih (L.erase N) (hn.erase N) (fun x hx => by
        have h2 := (hn.mem_erase_iff).1 hx
        have := h x h2.2
        have := h2.1
        omega)
      rw [List.length_erase_of_mem hm] at h1
      omega
    · have h1 := ih L hn (fun x hx => by
        have := h x hx
        have : x ≠ N := fun e => hm (e ▸ hx)
        omega)
      omega

theorem inL_all (L : List Nat) : inL L L.length = fun i => decide (i ∈ L) := by
  funext i
  unfold inL
  rw [List.take_length]
/-- persist of a row of words that this call owns. -/
theorem persist_row (a : DevA) (D : DevS) (base : Nat) (v : Value) (L : List Nat) (W : World) (h : DevIs W a D) (hr : W.ownsRow base 3 1 v L.length (L.map iW)) (hb : ∀ b ∈ a.all, b < base) (hnd : L.Nodup) (hin : ∀ x ∈ L, x < 8 * D.n ∧ D.buf (x : Int) ≠ none) (hwear : ∀ l, 0 ≤ D.wear l ∧ D.wear l < 4611686018427387904) :
    Calls Tryz.prog 72 #[.pointer (some ⟨a.bd, 0, none⟩), v] W fun e W' => e = .returned (.tuple #[]) ∧ DevIs W' a (persistD D (fun i => decide (i ∈ L))) ∧ Gr a.all W W' := by
  have hlen := nodup_len (8 * D.n) L hnd (fun x hx => (hin x hx).1)
  have hn := h.ok.hi
  rw [← inL_all]
  have hc := fun g (hg : v.ownBlock = some g) => hr.cells hg
  rcases hr.2 with ⟨rfl, h0⟩ | ⟨g, cap, cur, rfl, hg, hh, _⟩
  · obtain rfl : L = [] := List.eq_nil_of_length_eq_zero h0
    exact persist_any a D none 0 0 [] W h (fun k hk => by simp at hk) (fun k x hx => by simp at hx) (fun e => absurd rfl e) hnd hin (by simp) hwear
  · refine persist_any a D (some ⟨g, 0, none⟩) g cap L W h (fun _ _ => rfl) (fun k x hx => ?_) (fun _ => ⟨fun e => by have := hb _ e; omega, (Array.getElem?_eq_some_iff.1 hh).1⟩) hnd hin (by omega) hwear
    have := hc g rfl k (iW x) (by rw [List.getElem?_map, hx]; rfl)
    rw [addp] at this
    simpa [iW] using this

def fluS (D : DevS) : Nat → Bool := fun i => ((D.buf (i : Int)).getD (0, false)).2
structure Fen (W wr : World) (a : DevA) (D : DevS) (g : Nat) (v : Value) (L : List Nat) (left : Int → Bool) : Prop where
  ran : RanZ cellE 3 wr a.bb W.heap.size D.cnt D.buf left g
  own : wr.ownsRow (W.heap.size + 1) 3 1 v L.length (L.map iW)
  gr : Gr [] W wr
  size : W.heap.size + 1 ≤ wr.heap.size
  nd : L.Nodup
  mem : ∀ x : Nat, x ∈ L ↔ fluS D x = true ∧ left (x : Int) = false
theorem fluS_some {D : DevS} {x : Nat} (h : fluS D x = true) : D.buf (x : Int) ≠ none := by
  unfold fluS at h
  intro e
  rw [e] at h
  cases h

theorem Fen.own1 {W wr w1 : World} {a : DevA} {D : DevS} {g : Nat} {v : Value} {L : List Nat} {left : Int → Bool} (Q : Fen W wr a D g v L left) (G1 : Gr [W.heap.size] wr w1) : w1.ownsRow (W.heap.size + 1) 3 1 v L.length (L.map iW) :=
  own_gr Q.own G1 fun b hb e => by rw [List.mem_singleton] at e; have := (Q.own.lt b hb).1; omega
theorem Fen.skip {W wr w1 w2 : World} {a : DevA} {D : DevS} {g g' x u : Nat} {v : Value} {L : List Nat} {left : Int → Bool} (Q : Fen W wr a D g v L left) (hf : D.buf (x : Int) = some (u, false))
    (R1 : RanZ cellE 3 w1 a.bb W.heap.size D.cnt D.buf (fun y => left y && !decide (y = (x : Int))) g') (G1 : Gr [W.heap.size] wr w1) (G2 : Gr [] w1 w2) : Fen W w2 a D g' v L (fun y => left y && !decide (y = (x : Int))) := by
  refine ⟨R1.gr0 G2, own_gr0 (Q.own1 G1) G2, (Q.gr.nextN G1 (fun b hb => by rw [List.mem_singleton] at hb; subst hb; exact .inr (Nat.le_refl _))).next0 G2, Nat.le_trans Q.size (Nat.le_trans G1.size G2.size), Q.nd, fun y => ?_⟩
  rw [Q.mem y]
  by_cases e : y = x
  · subst e
    have : fluS D y = false := by unfold fluS; rw [hf]; rfl
    simp [this]
  · have : ¬ ((y : Int) = (x : Int)) := by omega
    simp [this]
theorem Fen.take {W wr w1 w2 w3 : World} {a : DevA} {D : DevS} {g g' x u : Nat} {v v' : Value} {L : List Nat} {left : Int → Bool} (Q : Fen W wr a D g v L left) (hf : D.buf (x : Int) = some (u, true)) (hl : left (x : Int) = true) (hb : a.bb < W.heap.size)
    (R1 : RanZ cellE 3 w1 a.bb W.heap.size D.cnt D.buf (fun y => left y && !decide (y = (x : Int))) g') (G1 : Gr [W.heap.size] wr w1) (G2 : Gr [] w1 w2) (hg : w2.grownBy w3 v.ownBlock) (ho : w3.ownsRow (W.heap.size + 1) 3 1 v' (L.length + 1) (L.map iW ++ [iW x])) :
    Fen W w3 a D g' v' (L ++ [x]) (fun y => left y && !decide (y = (x : Int))) := by
  have hown : ∀ k, v.ownBlock = some k → W.heap.size + 1 ≤ k := fun k hk => (Q.own.lt k hk).1
  have hS : fluS D x = true := by unfold fluS; rw [hf]; rfl
  have hn : x ∉ L := fun e => by have := ((Q.mem x).1 e).2; rw [hl] at this; cases this
  have g3 := Gr.ofGrown hg
  refine ⟨(R1.gr0 G2).gr g3 (fun e => ?_) (fun e => ?_), ?_, ((Q.gr.nextN G1 (fun b hb => by rw [List.mem_singleton] at hb; subst hb; exact .inr (Nat.le_refl _))).next0 G2).grown hg (fun k hk => .inr (by have := hown k hk; omega)), Nat.le_trans Q.size (Nat.le_trans G1.size (Nat.le_trans G2.size g3.size)), ?_, fun y => ?_⟩
  · have := hown _ (by simpa using e); omega
  · have := hown _ (by simpa using e); omega
  · rw [List.length_append, List.map_append]; exact ho
  · rw [List.nodup_append]
    refine ⟨Q.nd, by simp, fun y hy z hz e => ?_⟩
    rw [List.mem_singleton] at hz
    subst hz
    subst e
    exact hn hy
  · rw [List.mem_append, List.mem_singleton, Q.mem y]
    by_cases e : y = x
    · subst e; simp [hS]
    · have : ¬ ((y : Int) = (x : Int)) := by omega
      simp [e, this]

set_option maxRecDepth 20000 in
set_option maxHeartbeats 2000000 in
theorem fence1 (a : DevA) (D : DevS) (p0 : Nat) (W : World) (h : DevIs W a D) (c0 : W.cell? ⟨p0, 0, none⟩ = some (.pointer (some ⟨a.bd, 0, none⟩))) (hwear : ∀ l, 0 ≤ D.wear l ∧ D.wear l < 4611686018427387904) :
    Calls Tryz.prog 71 #[.pointer (some ⟨p0, 0, none⟩)] W fun e W' => e = .returned (.tuple #[]) ∧ DevIs W' a (persistD D (fluS D)) ∧ Gr a.all W W' := by
  obtain ⟨i0, hi, hz0, hz1, hz2⟩ := info_parts infoI64
  have H := Lib.hid h
  have hn := h.ok.hi
  have d1 := h.c1
  have HW := Lib.hid hwear
  have hp0 := block_lt_of_cell c0
  simp only at hp0
  have C0 := Lib.hid c0
  clear h hwear
  go_enter Tryz.func71, Tryz.ntmps71
  go_wp2_with (at_range; refine wp_rangeZ rfl _ rfl rfl H.out.buf undInt undMap ?_; intro w2 cnt R2 G2 hs2)
  have F0 : Fen W w2 a D cnt (.slice none 0 0) [] (fun z => (D.buf z).isSome) := by
    refine ⟨R2, World.ownsRow_nil _ _ _ _, G2, by omega, List.nodup_nil, fun x => ⟨(fun e => by cases e), fun e => ?_⟩⟩
    have := fluS_some e.1
    have h2 := e.2
    cases hb : D.buf (x : Int) with
    | none => exact absurd hb this
    | some p => rw [hb] at h2; cases h2
  clear R2 G2 hs2 c0 d1
  go_frame
  go_loopg [1] cnt (fun g v wr => ∃ L left, Fen W wr a D g v L left)
  case atStart => exact ⟨_, _, F0⟩
  case round =>
    clear F0
    obtain ⟨L, left, Q⟩ := hrel
    have HQ := Lib.hid Q
    clear Q
    go_wp2_with (at_next; refine wp_nextZ rfl _ rfl rfl HQ.out.ran undInt ?_ ?_)
    · intro hdone
      have hD := H.out.gr0 HQ.out.gr
      have c0 : wr.cell? ⟨p0, 0, none⟩ = some (.pointer (some ⟨a.bd, 0, none⟩)) := (HQ.out.gr.cell0 hp0).trans C0.out
      have hx8 : ∀ x : Nat, fluS D x = true → x < 8 * D.n := fun x hx => by have := (H.out.ok.sup _ (fluS_some hx)).2; omega
      have hmem : ∀ x : Nat, x ∈ L ↔ fluS D x = true := fun x => by
        rw [HQ.out.mem x]
        refine ⟨fun e => e.1, fun e => ⟨e, hdone _ (wfZ (by omega) ?_)⟩⟩
        have := hx8 x e
        omega
      have HP := Lib.hid (persist_row a D (W.heap.size + 1) _ L wr hD HQ.out.own (fun b hb => by have := H.out.lt b hb; omega) HQ.out.nd (fun x hx => ⟨hx8 x ((hmem x).1 hx), fluS_some ((hmem x).1 hx)⟩) HW.out)
      have HS := Lib.hid (show (fun i => decide (i ∈ L)) = fluS D by funext i; rw [Bool.eq_iff_iff, decide_eq_true_eq]; exact hmem i)
      clear hD hx8 hmem hdone
      go_wp2_with fail
      refine HP.out.mono ?_
      rintro e w3 ⟨rfl, D3, G3⟩
      have HR := Lib.hid (And.intro D3 (HQ.out.gr.of0.trans G3))
      clear D3 G3
      go_wp2_with fail
      go_returns
      exact ⟨rfl, by rw [← HS.out]; exact HR.out.1, HR.out.2⟩
    · intro z u
      constructor
      all_goals
        intro w1 cnt' hz hl hf R1 hlt G1 hs1 hen
        obtain ⟨hz1, hz2⟩ := H.out.ok.sup z (by rw [hf]; simp)
        obtain ⟨x, rfl⟩ := Int.eq_ofNat_of_zero_le hz1
        obtain ⟨f, hff⟩ : ∃ f : Bool, D.buf (x : Int) = some (u, f) := ⟨_, hf⟩
        have HF := Lib.hid (And.intro hf (And.intro hl (And.intro R1 (And.intro G1 hlt))))
        have hlen : L.length ≤ 65536 := by
          have := nodup_len (8 * D.n) L HQ.out.nd (fun y hy => by have := (H.out.ok.sup _ (fluS_some ((HQ.out.mem y).1 hy).1)).2; omega)
          omega
        have hsz := Nat.le_trans HQ.out.size G1.size
        have hbb : a.bb < W.heap.size := H.out.buf.lt
        clear hf hff hl R1 G1 hlt hz hz1 hz2 hs1
      · have he2 : (Instr.entry (.pointer (some ⟨W.heap.size, 0, none⟩))).run Tryz.prog w1 = .ok (.tuple #[.int .i64 (x : Int), .agg #[.int .u64 (u : Int), .bool false]]) w1 := hen
        clear hen
        have HN := Lib.hid (HQ.out.skip HF.out.1 HF.out.2.2.1 HF.out.2.2.2.1 ((Gr.refl [] w1).alloc (Obj.cells #[.int .u64 (u : Int), .bool false] 144)))
        go_wp2_with fail
        go_roundg cnt'
        case measure => exact HF.out.2.2.2.2
        case rel => exact ⟨_, _, HN.out⟩
      · have he2 : (Instr.entry (.pointer (some ⟨W.heap.size, 0, none⟩))).run Tryz.prog w1 = .ok (.tuple #[.int .i64 (x : Int), .agg #[.int .u64 (u : Int), .bool true]]) w1 := hen
        clear hen
        have hown1 := HQ.out.own1 HF.out.2.2.2.1
        have G2 := (Gr.refl [] w1).alloc (Obj.cells #[.int .u64 (u : Int), .bool true] 144)
        go_wp2_with (at_builtin; refine wpList_append_own _ rfl _ _ 61 rfl (W.heap.size + 1) 3 i0 (.int .i64 0) 1 8 Tryz.underlying61 hi hz0 hz1 hz2 rfl (by decide) _ _ _ rfl ((hown1.alloc _).alloc _) ⟨w1.heap.size + 1, 0, none⟩ 1 1 [.int .i64 x] rfl rfl ?c1 ?c2 ?c3 ?c4 ?c5 ?_)
        case c1 =>
          intro a u ha
          match a, ha with
          | 0, ha => simp at ha; subst ha; simp [Addr.add]
        case c2 => intro u hu; simp at hu; subst hu; rfl
        case c3 => unfold maxLen; omega
        case c4 => omega
        case c5 => simp; omega
        intro v' w3 hown3 hgrow _
        have HN := Lib.hid (HQ.out.take HF.out.1 HF.out.2.1 hbb HF.out.2.2.1 HF.out.2.2.2.1 (G2.alloc _) hgrow hown3)
        clear hown3 hgrow hown1 G2
        go_wp2_with fail
        go_roundg cnt'
        case measure => exact HF.out.2.2.2.2
        case rel => exact ⟨_, _, HN.out⟩

end Go.Proofs.YtjbhallhmnahbaaGreat

/-
  pm: Fence, whole.
-/
namespace Go.Proofs.YtjbhallhmnahbaaGreat
open Go.RowKit

def fenceF (D : DevS) : DevS := { persistD D (fluS D) with cnt := D.cnt + 1 }
theorem Did.ofDev {a : DevA} {D E : DevS} {W W' : World} (h : DevIs W' a E) (g : Gr a.all W W') (hc : E.cnt = D.cnt) : Did a D { E with cnt := D.cnt + 1 } W W' := by
  have c := h.c6
  rw [hc] at c
  have r := h.setCnt (D.cnt + 1) (by omega)
  exact ⟨c, h.fr 6, r, g⟩

set_option maxRecDepth 20000 in
set_option maxHeartbeats 1000000 in
theorem fence_any (a : DevA) (D : DevS) (w : World) (h : DevIs w a D) (hc : D.cnt < 4611686018427387904) (hw : ∀ l, 0 ≤ D.wear l ∧ D.wear l < 4611686018427387904) :
    Calls Tryz.prog 27 #[.pointer (some ⟨a.bd, 0, none⟩)] w fun e w' => e = .returned (.int .i64 (opE D true)) ∧ DevIs w' a (opD D true fenceF) ∧ Gr a.all w w' := by
  have X0 := Holds.new w #[.pointer (some ⟨a.bd, 0, none⟩)] 29
  have g := (Gr.refl [] w).alloc (Obj.cells #[.pointer (some ⟨a.bd, 0, none⟩)] 29)
  have HG := Lib.hid g
  have HT := Lib.hid (h.gr0 g)
  clear g
  by_cases he : reachE D true = 0
  · by_cases hf : D.fuse = 1
    · have HE := Lib.hid (And.intro (opE_fuse he hf) (fun f => opD_fuse (f := f) he hf))
      have HO := Lib.hid (fun g W (q : DevIs W a D) => operate_fuse a D true g W q he hf)
      clear he hf X0 h hw
      go_enter Tryz.func27, Tryz.ntmps27
      go_wp2_with fail
      refine (HO.out _ _ HT.out).mono ?_
      rintro e w' ⟨rfl, d2, g2⟩
      have HR := Lib.hid (And.intro d2 ((HG.out.of0.trans (g2.mono (cs := a.all) (fun b hb => by simp at hb; subst hb; simp [DevA.all])))))
      clear d2 g2
      go_wp2_with fail
      go_ret
      exact ⟨by rw [HE.out.1]; rfl, by rw [HE.out.2]; exact HR.out.1, HR.out.2⟩
    · have HE := Lib.hid (And.intro (opE_ok he hf) (fun f => opD_ok (f := f) he hf))
      have hlt := h.lt
      have na : w.heap.size ∉ a.all := fun hm => by have := hlt _ hm; omega
      have HO := Lib.hid (operate_fence a D (fenceF (lit D)) w.heap.size _ HT.out he hf hc (fun W g d => by
        have e0 := (X0.gr g na).cell 0
        exact (fence1 a (lit D) w.heap.size W d e0 hw).mono fun e W' q => ⟨q.1, Did.ofDev q.2.1 q.2.2 rfl⟩))
      clear he hf X0 h hlt na hw
      go_enter Tryz.func27, Tryz.ntmps27
      go_wp2_with fail
      refine HO.out.mono ?_
      rintro e w' ⟨rfl, d2, g2⟩
      have HR := Lib.hid (And.intro d2 (HG.out.of0.trans g2))
      clear d2 g2
      go_wp2_with fail
      go_ret
      exact ⟨by rw [HE.out.1]; rfl, by rw [HE.out.2]; exact HR.out.1, HR.out.2⟩
  · have HE := Lib.hid (And.intro (opE_err he) (fun f => opD_err (f := f) he))
    have HO := Lib.hid (fun g => operate_err a D true g _ HT.out he)
    clear he X0 h hw
    go_enter Tryz.func27, Tryz.ntmps27
    go_wp2_with fail
    refine (HO.out _).mono ?_
    rintro e w' ⟨rfl, rfl⟩
    go_wp2_with fail
    go_ret
    exact ⟨by rw [HE.out.1]; rfl, by rw [HE.out.2]; exact HT.out, HG.out.of0⟩

end Go.Proofs.YtjbhallhmnahbaaGreat

/-
  pm: Boot (Pending's contract is a premise).
-/
namespace Go.Proofs.YtjbhallhmnahbaaGreat
open Go.RowKit

def IsPend (D : DevS) (L : List Nat) : Prop := L.Pairwise (· < ·) ∧ ∀ x : Nat, x ∈ L ↔ D.buf (x : Int) ≠ none

section
variable {P : Program} {k e t : TypeId} {α : Type} {E : EltLaw P e α} {w : World} {b n r : Nat} {f : Int → Option α} {ops : Array Oper} {rest : List Oper} {o : Oper} {a : Act} {Q : Exit → Act → World → Prop}
theorem MapZ.clear (h : MapZ E k w b n f) (ht : P.underlying t = some (.map k e)) (ty : TypeId) : ∃ w', (Builtin.clear_ #[t] ty #[.map (some b)]).run P w = .ok (.tuple #[]) w' ∧ MapZ E k w' b 0 (fun _ => none) ∧ Gr [b] w w' ∧ w'.heap.size = w.heap.size := by
  obtain ⟨D, ⟨es, clock, hb, F, hs, hD⟩, q⟩ := h
  refine ⟨ChangeMaps.setBlock w b (.map #[] clock), ?_, ⟨.map [], ⟨#[], clock, ChangeMaps.heap_setBlock_same hb _, ⟨by simp, MapKept.stamped_empty clock, by simp⟩, Nat.le_refl _, rfl⟩, MIs.empty⟩, ⟨rfl, rfl, rfl, by simp [ChangeMaps.setBlock], fun i _ hi => ChangeMaps.heap_setBlock_other hb _ (fun e => hi (by rw [e]; simp))⟩, by simp [ChangeMaps.setBlock]⟩
  simp [Builtin.clear_, run_underlying ht, MapKept.run_getObj_map hb, MapKept.run_setObj_map _ hb, Result.andThen, ChangeMaps.setBlock]
end

/-! ### Boot -/
def bootS (L : List Nat) (kp : Nat → Bool) : Nat → Bool := fun i => (List.range L.length).any fun j => kp j && decide (L[j]? = some i)
def bootD (D : DevS) (L : List Nat) (kp : Nat → Bool) : DevS := { persistD D (bootS L kp) with buf := fun _ => none, fuse := 0, off := false }
structure Boo (w1 wr : World) (L : List Nat) (kp : Nat → Bool) (v : Value) (M : List Nat) (k : Nat) : Prop where
  own : wr.ownsRow w1.heap.size 3 1 v M.length (M.map iW)
  gr : Gr [] w1 wr
  nd : M.Nodup
  mem : ∀ x, x ∈ M ↔ ∃ j, j < k ∧ kp j = true ∧ L[j]? = some x
theorem Boo.skip {w1 wr : World} {L M : List Nat} {kp : Nat → Bool} {v : Value} {k : Nat} (Q : Boo w1 wr L kp v M k) (h : kp k = false) : Boo w1 wr L kp v M (k + 1) := by
  refine ⟨Q.own, Q.gr, Q.nd, fun x => ?_⟩
  rw [Q.mem x]
  constructor
  · rintro ⟨j, h1, h2⟩; exact ⟨j, by omega, h2⟩
  · rintro ⟨j, h1, h2, h3⟩
    by_cases e : j = k
    · subst e; rw [h] at h2; cases h2
    · exact ⟨j, by omega, h2, h3⟩
theorem Boo.take {w1 wr w2 w3 : World} {L M : List Nat} {kp : Nat → Bool} {v v' : Value} {k x : Nat} (Q : Boo w1 wr L kp v M k) (h : kp k = true) (hx : L[k]? = some x) (hn : L.Nodup) (g2 : Gr [] wr w2) (hg : w2.grownBy w3 v.ownBlock) (ho : w3.ownsRow w1.heap.size 3 1 v' (M.length + 1) (M.map iW ++ [iW x])) :
    Boo w1 w3 L kp v' (M ++ [x]) (k + 1) := by
  refine ⟨by rw [List.length_append, List.map_append]; exact ho, (Q.gr.next0 g2).grown hg (fun k hk => .inr (Q.own.lt k hk).1), ?_, fun y => ?_⟩
  · rw [List.nodup_append]
    refine ⟨Q.nd, by simp, fun y hy z hz e => ?_⟩
    rw [List.mem_singleton] at hz
    subst hz
    subst e
    obtain ⟨j, h1, _, h3⟩ := (Q.mem y).1 hy
    obtain ⟨q1, q2⟩ := List.getElem?_eq_some_iff.1 h3
    obtain ⟨q3, q4⟩ := List.getElem?_eq_some_iff.1 hx
    have := (List.getElem_inj hn (h₀ := q1) (h₁ := q3)).1 (q2.trans q4.symm)
    omega
  · rw [List.mem_append, List.mem_singleton, Q.mem y]
    constructor
    · rintro (⟨j, h1, h2⟩ | rfl)
      · exact ⟨j, by omega, h2⟩
      · exact ⟨k, by omega, h, hx⟩
    · rintro ⟨j, h1, h2, h3⟩
      by_cases e : j = k
      · subst e; rw [hx] at h3; cases h3; exact .inr rfl
      · exact .inl ⟨j, by omega, h2, h3⟩
theorem Boo.all {w1 wr : World} {L M : List Nat} {kp : Nat → Bool} {v : Value} (Q : Boo w1 wr L kp v M L.length) : (fun i => decide (i ∈ M)) = bootS L kp := by
  funext i
  unfold bootS
  rw [Bool.eq_iff_iff, decide_eq_true_eq, Q.mem i, List.any_eq_true]
  constructor
  · rintro ⟨j, h1, h2, h3⟩; exact ⟨j, by rw [List.mem_range]; exact h1, by simp [h2, h3]⟩
  · rintro ⟨j, h1, h2⟩
    rw [List.mem_range] at h1
    rw [Bool.and_eq_true, decide_eq_true_eq] at h2
    exact ⟨j, h1, h2.1, h2.2⟩

end Go.Proofs.YtjbhallhmnahbaaGreat

/-
  Layer 3's laws: what the document fixes (wakes).
-/
namespace Go.Proofs.YtjbhallhmnahbaaGreat
open Go.RowKit

/-- A device that is on, with no fuse, nothing in the buffer but perhaps word 0. -/
structure One (D : DevS) (m : Nat) (b : Option (Nat × Bool)) (v : Int) (c : Nat) : Prop where
  n : D.n = 2
  off : D.off = false
  fuse : D.fuse = 0
  cnt : D.cnt ≤ c
  wear : ∀ l, 0 ≤ D.wear l ∧ D.wear l ≤ (c : Int)
  med : D.med 0 = m
  buf : D.buf 0 = b
  at0 : D.wear 0 = v
  bad : D.bad 0 = false
  rest : ∀ z, z ≠ 0 → D.buf z = none
theorem live_e {D : DevS} {t : Bool} (h1 : D.off = false) (h2 : D.fuse = 0) (ht : t = true) : opE D t = 0 ∧ ∀ f, opD D t f = f D := by
  have hr : reachE D t = 0 := by unfold reachE; rw [h1, ht]; rfl
  have hl : lit D = D := by unfold lit; rw [if_neg (by omega)]
  exact ⟨opE_ok hr (by omega), fun f => by rw [opD_ok hr (by omega), hl]⟩
theorem One.store {D : DevS} {m c u : Nat} {b : Option (Nat × Bool)} {v : Int} (h : One D m b v c) : One (storeF 0 u D) m (some (u, false)) v (c + 1) :=
  ⟨h.n, h.off, h.fuse, (by have := h.cnt; show D.cnt + 1 ≤ c + 1; omega), (fun l => by have := h.wear l; show 0 ≤ D.wear l ∧ D.wear l ≤ _; omega), h.med, (by show updZ D.buf 0 (some (u, false)) 0 = _; simp [updZ]), h.at0, h.bad, fun z hz => by show updZ D.buf 0 (some (u, false)) z = _; unfold updZ; rw [if_neg hz]; exact h.rest z hz⟩
theorem One.flush {D : DevS} {m c u : Nat} {f : Bool} {v : Int} (h : One D m (some (u, f)) v c) : One (flushF 0 D) m (some (u, true)) v (c + 1) :=
  ⟨h.n, h.off, h.fuse, (by have := h.cnt; show D.cnt + 1 ≤ c + 1; omega), (fun l => by have := h.wear l; show 0 ≤ D.wear l ∧ D.wear l ≤ _; omega), h.med, (by show flF D.buf 0 8 0 = _; unfold flF; rw [if_pos (by omega), h.buf]; rfl), h.at0, h.bad, fun z hz => by show flF D.buf 0 8 z = _; unfold flF; rw [h.rest z hz]; simp⟩
theorem One.fence {D : DevS} {m c u : Nat} {v : Int} (h : One D m (some (u, true)) v c) : One (fenceF D) u none (v + 1) (c + 1) := by
  have hS : fluS D 0 = true := by unfold fluS; rw [show ((0 : Nat) : Int) = 0 from rfl, h.buf]; rfl
  refine ⟨h.n, h.off, h.fuse, (by have := h.cnt; show D.cnt + 1 ≤ c + 1; omega), fun l => ?_, ?_, ?_, ?_, h.bad, fun z hz => ?_⟩
  · have := h.wear l
    show 0 ≤ perWear D (linesOf (fluS D)) l ∧ perWear D (linesOf (fluS D)) l ≤ _
    unfold perWear
    split <;> omega
  · show perMed D (fluS D) 0 = u
    unfold perMed
    rw [if_pos ⟨hS, h.bad⟩, show ((0 : Nat) : Int) = 0 from rfl, h.buf]
    rfl
  · show perBuf D (fluS D) 0 = none
    unfold perBuf
    rw [if_pos ⟨by omega, hS⟩]
  · show perWear D (linesOf (fluS D)) 0 = v + 1
    unfold perWear
    rw [if_pos (linesOf_iff.2 ⟨0, hS, rfl⟩), h.at0]
  · show perBuf D (fluS D) z = none
    unfold perBuf
    rw [h.rest z hz]
    split <;> rfl
theorem bootS_none (L : List Nat) {kp : Nat → Bool} (hk : ∀ j, kp j = false) : bootS L kp = fun _ => false := by
  funext i
  unfold bootS
  rw [List.any_eq_false]
  intro j _
  simp [hk j]
theorem linesOf_none : linesOf (fun _ => false) = fun _ => false := by
  funext l
  cases h : linesOf (fun _ => false) l with
  | false => rfl
  | true => obtain ⟨i, hi, _⟩ := linesOf_iff.1 h; cases hi
theorem One.boot {D : DevS} {m c : Nat} {b : Option (Nat × Bool)} {v : Int} (h : One D m b v c) (L : List Nat) {kp : Nat → Bool} (hk : ∀ j, kp j = false) : One (bootD D L kp) m none v c := by
  have e : bootD D L kp = { D with buf := fun _ => none, fuse := 0, off := false } := by
    unfold bootD persistD
    rw [bootS_none L hk, linesOf_none, perMed_none]
    have : perWear D (fun _ => false) = D.wear := by funext l; simp [perWear]
    rw [this]
  rw [e]
  exact ⟨h.n, rfl, rfl, h.cnt, h.wear, h.med, rfl, h.at0, h.bad, fun _ _ => rfl⟩

section
variable {a : DevA} {w : World} {m c : Nat} {b : Option (Nat × Bool)} {v : Int}
end

end Go.Proofs.YtjbhallhmnahbaaGreat

/-
  PmFuse.
-/
namespace Go.Proofs.YtjbhallhmnahbaaGreat
open Go.RowKit
set_option linter.unusedVariables false

def fz (f : Int) (o : Bool) (buf : Int → Option (Nat × Bool)) (med : Nat → Nat) (wear : Nat → Int) (c : Nat) : DevS := { n := 3, med := med, buf := buf, wear := wear, bad := fun j => if j = 1 then true else false, fuse := f, off := o, cnt := c }
section
variable {a : DevA} {w : World} {buf : Int → Option (Nat × Bool)} {med : Nat → Nat} {wear : Nat → Int} {c : Nat}
end
end Go.Proofs.YtjbhallhmnahbaaGreat
