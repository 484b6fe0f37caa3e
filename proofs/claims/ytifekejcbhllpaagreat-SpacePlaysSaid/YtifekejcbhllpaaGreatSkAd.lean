/-
  SkAd: PmN, PmG, PmH, PmL, PmW.
-/
import Derived.Test.YtifekejcbhllpaaGreatSkAb
import Derived.Test.YtifekejcbhllpaaGreatSkAc
import Derived.Laws.AppendOwn
import Derived.Shelf.SlIterI.Nil
import Derived.Shelf.SortM.Plain
import Derived.Shelf.SortM.SortNone
import Derived.Ground.GgzProg
import Derived.Ground.SlgmProg

set_option linter.unusedVariables false

/-
  pm.New.
-/
namespace Go.Proofs.YtifekejcbhllpaaGreat
open Go.RowKit

theorem infoU64 : (Tryz.prog.info? 22).map (fun i => (i.zero, i.size, i.bytes)) = some (some (.int .u64 0), 1, 8) := by kernel_rfl
theorem infoI64 : (Tryz.prog.info? 3).map (fun i => (i.zero, i.size, i.bytes)) = some (some (.int .i64 0), 1, 8) := by kernel_rfl
theorem infoB : (Tryz.prog.info? 4).map (fun i => (i.zero, i.size, i.bytes)) = some (some (.bool false), 1, 1) := by kernel_rfl
/-- 'make([]T, m)' of a one-cell type, whatever the world. -/
theorem make_run {t e : TypeId} (v : Value) (bytes m : Nat) (mI : Int) (hmI : mI = m) (ht : Tryz.prog.underlying t = some (.slice e)) (hi : (Tryz.prog.info? e).map (fun i => (i.zero, i.size, i.bytes)) = some (some v, 1, bytes)) (hv : Value.cells v = #[v]) (hb : bytes ≤ 8) (hm : m ≤ 65536) (W : World) :
    (Instr.makeSlice t (.int .i64 mI) (.int .i64 mI)).run Tryz.prog W = .ok (.slice (some ⟨W.heap.size, 0, none⟩) m m) (W.alloc (.cells (rowOf (fun _ => v) m) e)) := by
  subst hmI
  obtain ⟨i0, h0, hz0, hz1, hz2⟩ := info_parts hi
  have hbm : i0.bytes * m ≤ 8 * 65536 := Nat.mul_le_mul (by omega) hm
  have hbm2 : (i0.bytes : Int) * (m : Int) ≤ 281474976710656 := by
    have q : ((i0.bytes * m : Nat) : Int) ≤ 8 * 65536 := by omega
    rw [Int.natCast_mul] at q
    omega
  have r := run_make (P := Tryz.prog) W t e i0 v ht h0 hz0 .i64 .i64 (m : Int) (m : Int) (by omega) (Int.le_refl _) hbm2 (by omega)
  simp only [Int.toNat_natCast, hz1] at r
  rw [r]
  have e := rowOf_made v hv m
  rw [← e]
def newD (n : Nat) : DevS := { n := n, med := fun _ => 0, buf := fun _ => none, wear := fun _ => 0, bad := fun _ => false, fuse := 0, off := false, cnt := 0 }
theorem newD_ok (n : Nat) (h1 : 1 ≤ n) (h2 : n ≤ 8192) : DevOk (newD n) := ⟨h1, h2, (fun z h => absurd rfl h), (fun _ => by simp [newD]), (fun z p h => by cases h), (by simp [newD])⟩

section
variable (w : World) (A B C D H : Obj)
theorem five0 : ((((((w.alloc A).alloc B).alloc C).alloc D).alloc H).drew).heap[w.heap.size]? = some A := by
  show (((((w.heap.push A).push B).push C).push D).push H)[w.heap.size]? = some A
  rw [Array.getElem?_push, if_neg (by simp only [Array.size_push]; omega), Array.getElem?_push, if_neg (by simp only [Array.size_push]; omega), Array.getElem?_push, if_neg (by simp only [Array.size_push]; omega), Array.getElem?_push, if_neg (by simp only [Array.size_push]; omega), Array.getElem?_push, if_pos rfl]
theorem five1 : ((((((w.alloc A).alloc B).alloc C).alloc D).alloc H).drew).heap[w.heap.size + 1]? = some B := by
  show (((((w.heap.push A).push B).push C).push D).push H)[w.heap.size + 1]? = some B
  rw [Array.getElem?_push, if_neg (by simp only [Array.size_push]; omega), Array.getElem?_push, if_neg (by simp only [Array.size_push]; omega), Array.getElem?_push, if_neg (by simp only [Array.size_push]; omega), Array.getElem?_push, if_pos (by simp only [Array.size_push])]
theorem five2 : ((((((w.alloc A).alloc B).alloc C).alloc D).alloc H).drew).heap[w.heap.size + 1 + 1]? = some C := by
  show (((((w.heap.push A).push B).push C).push D).push H)[w.heap.size + 1 + 1]? = some C
  rw [Array.getElem?_push, if_neg (by simp only [Array.size_push]; omega), Array.getElem?_push, if_neg (by simp only [Array.size_push]; omega), Array.getElem?_push, if_pos (by simp only [Array.size_push])]
theorem five3 : ((((((w.alloc A).alloc B).alloc C).alloc D).alloc H).drew).heap[w.heap.size + 1 + 1 + 1]? = some D := by
  show (((((w.heap.push A).push B).push C).push D).push H)[w.heap.size + 1 + 1 + 1]? = some D
  rw [Array.getElem?_push, if_neg (by simp only [Array.size_push]; omega), Array.getElem?_push, if_pos (by simp only [Array.size_push])]
theorem five4 : ((((((w.alloc A).alloc B).alloc C).alloc D).alloc H).drew).heap[w.heap.size + 1 + 1 + 1 + 1]? = some H := by
  show (((((w.heap.push A).push B).push C).push D).push H)[w.heap.size + 1 + 1 + 1 + 1]? = some H
  rw [Array.getElem?_push, if_pos (by simp only [Array.size_push])]
end
theorem new_fin {w W : World} {n b4 bm bb bw bg : Nat} {R1 R2 R3 : Array Value} (h1 : 1 ≤ n) (h2 : n ≤ 8192) (HR : rowOf (fun _ => Value.int .u64 0) (8 * n) = R1 ∧ rowOf (fun _ => Value.int .i64 0) n = R2 ∧ rowOf (fun _ => Value.bool false) n = R3)
    (hH : W.heap[b4]? = some (.cells #[.slice (some ⟨bm, 0, none⟩) (8 * n) (8 * n), .map (some bb), .slice (some ⟨bw, 0, none⟩) n n, .slice (some ⟨bg, 0, none⟩) n n, .int .i64 0, .bool false, .int .i64 0] 110))
    (q1 : W.heap[bm]? = some (.cells R1 22)) (q2 : W.heap[bb]? = some (.map #[] 0)) (q3 : W.heap[bw]? = some (.cells R2 3)) (q4 : W.heap[bg]? = some (.cells R3 4))
    (nd : [b4, bm, bb, bw, bg].Nodup) (lo : ∀ b ∈ [b4, bm, bb, bw, bg], w.heap.size ≤ b) (g : Gr [] w W) :
    DevIs W ⟨b4, bm, bb, bw, bg⟩ (newD n) ∧ (∀ b ∈ (DevA.mk b4 bm bb bw bg).all, w.heap.size ≤ b) ∧ Gr [] w W := by
  obtain ⟨rfl, rfl, rfl⟩ := HR
  refine ⟨⟨hH, q1, q3, q4, ?_, nd, newD_ok n h1 h2⟩, lo, g⟩
  exact ⟨.map [], ⟨#[], 0, q2, ⟨by simp, MapKept.stamped_empty 0, by simp⟩, Nat.le_refl _, rfl⟩, MIs.empty⟩
set_option maxRecDepth 20000 in
set_option maxHeartbeats 4000000 in
theorem pmnew_yes (n : Nat) (w : World) (h1 : 1 ≤ n) (h2 : n ≤ 8192) :
    Calls Tryz.prog 26 #[.int .i64 n] w fun e w' => ∃ a : DevA, e = .returned (.tuple #[.pointer (some ⟨a.bd, 0, none⟩), .int .i64 0]) ∧ DevIs w' a (newD n) ∧ (∀ b ∈ a.all, w.heap.size ≤ b) ∧ Gr [] w w' := by
  have m1 := fun W => make_run (.int .u64 0) 8 (8 * n) ((n : Int) * 8) (by omega) Tryz.underlying107 infoU64 rfl (by omega) (by omega) W
  have m2 := fun W => make_run (.int .i64 0) 8 n (n : Int) rfl Tryz.underlying101 infoI64 rfl (by omega) (by omega) W
  have m3 := fun W => make_run (.bool false) 1 n (n : Int) rfl Tryz.underlying59 infoB rfl (by omega) (by omega) W
  have hmm := @run_makeMap Tryz.prog
  generalize hr1 : rowOf (fun _ => Value.int .u64 0) (8 * n) = R1 at *
  generalize hr2 : rowOf (fun _ => Value.int .i64 0) n = R2 at *
  generalize hr3 : rowOf (fun _ => Value.bool false) n = R3 at *
  have HR := Lib.hid (And.intro hr1 (And.intro hr2 hr3))
  clear hr1 hr2 hr3
  have hd1 : decide ((n : Int) < 1) = false := by simp; omega
  have hd2 : decide ((8192 : Int) < (n : Int)) = false := by simp; omega
  go_enter Tryz.func26, Tryz.ntmps26
  go_wp2_with fail
  go_region
  all_goals go_wp2
  all_goals go_ret2
  all_goals
    refine ⟨⟨_, _, _, _, _⟩, rfl, new_fin (w := w) h1 h2 HR.out (five4 w _ _ _ _ _) ?_ ?_ ?_ ?_ ?_ ?_ ?_⟩
    · first | exact five0 w _ _ _ _ _ | exact five1 w _ _ _ _ _ | exact five2 w _ _ _ _ _ | exact five3 w _ _ _ _ _
    · first | exact five0 w _ _ _ _ _ | exact five1 w _ _ _ _ _ | exact five2 w _ _ _ _ _ | exact five3 w _ _ _ _ _
    · first | exact five0 w _ _ _ _ _ | exact five1 w _ _ _ _ _ | exact five2 w _ _ _ _ _ | exact five3 w _ _ _ _ _
    · first | exact five0 w _ _ _ _ _ | exact five1 w _ _ _ _ _ | exact five2 w _ _ _ _ _ | exact five3 w _ _ _ _ _
    · simp only [List.nodup_cons, List.mem_cons, List.not_mem_nil, or_false, not_or, List.nodup_nil, and_true, not_false_eq_true]; omega
    · intro b hb; simp only [List.mem_cons, List.not_mem_nil, or_false] at hb; omega
    · exact ((((((Gr.refl _ _).alloc _).alloc _).alloc _).alloc _).alloc _).drew

end Go.Proofs.YtifekejcbhllpaaGreat

/-
  pm: Fence.
-/
namespace Go.Proofs.YtifekejcbhllpaaGreat
open Go.RowKit

theorem addp (g j : Nat) : (⟨g, 0, none⟩ : Addr).add j = ⟨g, j, none⟩ := by unfold Addr.add; split <;> simp_all
def iW (k : Nat) : Value := .int .i64 (k : Int)
theorem nodup_len (N : Nat) : ∀ (L : List Nat), L.Nodup → (∀ x ∈ L, x < N) → L.length ≤ N := by
  induction N with
  | zero =>
    intro L _ h
    cases L with
    | nil => exact Nat.le_refl _
    | cons x _ => exact absurd (h x (by simp)) (by omega)
  | succ N ih =>
    intro L hn h
    by_cases hm : N ∈ L
    · have h1 := ih (L.erase N) (hn.erase N) (fun x hx => by
        have h2 := (hn.mem_erase_iff).1 hx
        have := h x h2.2
        have := h2.1
        omega)
      rw [List.length_erase_of_mem hm] at h1
      omega
    · have h1 := ih L hn (fun x hx => by
        have := h x hx
        have : x ≠ N := fun e => hm (e ▸ hx)
        omega)
      omega

theorem inL_all (L : List Nat) : inL L L.length = fun i => decide (i ∈ L) := by
  funext i
  unfold inL
  rw [List.take_length]
/-- persist of a row of words that this call owns. -/
theorem persist_row (a : DevA) (D : DevS) (base : Nat) (v : Value) (L : List Nat) (W : World) (h : DevIs W a D) (hr : W.ownsRow base 3 1 v L.length (L.map iW)) (hb : ∀ b ∈ a.all, b < base) (hnd : L.Nodup) (hin : ∀ x ∈ L, x < 8 * D.n ∧ D.buf (x : Int) ≠ none) (hwear : ∀ l, 0 ≤ D.wear l ∧ D.wear l < 4611686018427387904) :
    Calls Tryz.prog 48 #[.pointer (some ⟨a.bd, 0, none⟩), v] W fun e W' => e = .returned (.tuple #[]) ∧ DevIs W' a (persistD D (fun i => decide (i ∈ L))) ∧ Gr a.all W W' := by
  have hlen := nodup_len (8 * D.n) L hnd (fun x hx => (hin x hx).1)
  have hn := h.ok.hi
  rw [← inL_all]
  have hc := fun g (hg : v.ownBlock = some g) => hr.cells hg
  rcases hr.2 with ⟨rfl, h0⟩ | ⟨g, cap, cur, rfl, hg, hh, _⟩
  · obtain rfl : L = [] := List.eq_nil_of_length_eq_zero h0
    exact persist_any a D none 0 0 [] W h (fun k hk => by simp at hk) (fun k x hx => by simp at hx) (fun e => absurd rfl e) hnd hin (by simp) hwear
  · refine persist_any a D (some ⟨g, 0, none⟩) g cap L W h (fun _ _ => rfl) (fun k x hx => ?_) (fun _ => ⟨fun e => by have := hb _ e; omega, (Array.getElem?_eq_some_iff.1 hh).1⟩) hnd hin (by omega) hwear
    have := hc g rfl k (iW x) (by rw [List.getElem?_map, hx]; rfl)
    rw [addp] at this
    simpa [iW] using this

def fluS (D : DevS) : Nat → Bool := fun i => ((D.buf (i : Int)).getD (0, false)).2
structure Fen (W wr : World) (a : DevA) (D : DevS) (g : Nat) (v : Value) (L : List Nat) (left : Int → Bool) : Prop where
  ran : RanZ cellE 3 wr a.bb W.heap.size D.cnt D.buf left g
  own : wr.ownsRow (W.heap.size + 1) 3 1 v L.length (L.map iW)
  gr : Gr [] W wr
  size : W.heap.size + 1 ≤ wr.heap.size
  nd : L.Nodup
  mem : ∀ x : Nat, x ∈ L ↔ fluS D x = true ∧ left (x : Int) = false
theorem fluS_some {D : DevS} {x : Nat} (h : fluS D x = true) : D.buf (x : Int) ≠ none := by
  unfold fluS at h
  intro e
  rw [e] at h
  cases h

theorem Fen.own1 {W wr w1 : World} {a : DevA} {D : DevS} {g : Nat} {v : Value} {L : List Nat} {left : Int → Bool} (Q : Fen W wr a D g v L left) (G1 : Gr [W.heap.size] wr w1) : w1.ownsRow (W.heap.size + 1) 3 1 v L.length (L.map iW) :=
  own_gr Q.own G1 fun b hb e => by rw [List.mem_singleton] at e; have := (Q.own.lt b hb).1; omega
theorem Fen.skip {W wr w1 w2 : World} {a : DevA} {D : DevS} {g g' x u : Nat} {v : Value} {L : List Nat} {left : Int → Bool} (Q : Fen W wr a D g v L left) (hf : D.buf (x : Int) = some (u, false))
    (R1 : RanZ cellE 3 w1 a.bb W.heap.size D.cnt D.buf (fun y => left y && !decide (y = (x : Int))) g') (G1 : Gr [W.heap.size] wr w1) (G2 : Gr [] w1 w2) : Fen W w2 a D g' v L (fun y => left y && !decide (y = (x : Int))) := by
  refine ⟨R1.gr0 G2, own_gr0 (Q.own1 G1) G2, (Q.gr.nextN G1 (fun b hb => by rw [List.mem_singleton] at hb; subst hb; exact .inr (Nat.le_refl _))).next0 G2, Nat.le_trans Q.size (Nat.le_trans G1.size G2.size), Q.nd, fun y => ?_⟩
  rw [Q.mem y]
  by_cases e : y = x
  · subst e
    have : fluS D y = false := by unfold fluS; rw [hf]; rfl
    simp [this]
  · have : ¬ ((y : Int) = (x : Int)) := by omega
    simp [this]
theorem Fen.take {W wr w1 w2 w3 : World} {a : DevA} {D : DevS} {g g' x u : Nat} {v v' : Value} {L : List Nat} {left : Int → Bool} (Q : Fen W wr a D g v L left) (hf : D.buf (x : Int) = some (u, true)) (hl : left (x : Int) = true) (hb : a.bb < W.heap.size)
    (R1 : RanZ cellE 3 w1 a.bb W.heap.size D.cnt D.buf (fun y => left y && !decide (y = (x : Int))) g') (G1 : Gr [W.heap.size] wr w1) (G2 : Gr [] w1 w2) (hg : w2.grownBy w3 v.ownBlock) (ho : w3.ownsRow (W.heap.size + 1) 3 1 v' (L.length + 1) (L.map iW ++ [iW x])) :
    Fen W w3 a D g' v' (L ++ [x]) (fun y => left y && !decide (y = (x : Int))) := by
  have hown : ∀ k, v.ownBlock = some k → W.heap.size + 1 ≤ k := fun k hk => (Q.own.lt k hk).1
  have hS : fluS D x = true := by unfold fluS; rw [hf]; rfl
  have hn : x ∉ L := fun e => by have := ((Q.mem x).1 e).2; rw [hl] at this; cases this
  have g3 := Gr.ofGrown hg
  refine ⟨(R1.gr0 G2).gr g3 (fun e => ?_) (fun e => ?_), ?_, ((Q.gr.nextN G1 (fun b hb => by rw [List.mem_singleton] at hb; subst hb; exact .inr (Nat.le_refl _))).next0 G2).grown hg (fun k hk => .inr (by have := hown k hk; omega)), Nat.le_trans Q.size (Nat.le_trans G1.size (Nat.le_trans G2.size g3.size)), ?_, fun y => ?_⟩
  · have := hown _ (by simpa using e); omega
  · have := hown _ (by simpa using e); omega
  · rw [List.length_append, List.map_append]; exact ho
  · rw [List.nodup_append]
    refine ⟨Q.nd, by simp, fun y hy z hz e => ?_⟩
    rw [List.mem_singleton] at hz
    subst hz
    subst e
    exact hn hy
  · rw [List.mem_append, List.mem_singleton, Q.mem y]
    by_cases e : y = x
    · subst e; simp [hS]
    · have : ¬ ((y : Int) = (x : Int)) := by omega
      simp [e, this]

set_option maxRecDepth 20000 in
set_option maxHeartbeats 2000000 in
theorem fence1 (a : DevA) (D : DevS) (p0 : Nat) (W : World) (h : DevIs W a D) (c0 : W.cell? ⟨p0, 0, none⟩ = some (.pointer (some ⟨a.bd, 0, none⟩))) (hwear : ∀ l, 0 ≤ D.wear l ∧ D.wear l < 4611686018427387904) :
    Calls Tryz.prog 170 #[.pointer (some ⟨p0, 0, none⟩)] W fun e W' => e = .returned (.tuple #[]) ∧ DevIs W' a (persistD D (fluS D)) ∧ Gr a.all W W' := by
  obtain ⟨i0, hi, hz0, hz1, hz2⟩ := info_parts infoI64
  have H := Lib.hid h
  have hn := h.ok.hi
  have d1 := h.c1
  have HW := Lib.hid hwear
  have hp0 := block_lt_of_cell c0
  simp only at hp0
  have C0 := Lib.hid c0
  clear h hwear
  go_enter Tryz.func170, Tryz.ntmps170
  go_wp2_with (at_range; refine wp_rangeZ rfl _ rfl rfl H.out.buf undInt undMap ?_; intro w2 cnt R2 G2 hs2)
  have F0 : Fen W w2 a D cnt (.slice none 0 0) [] (fun z => (D.buf z).isSome) := by
    refine ⟨R2, World.ownsRow_nil _ _ _ _, G2, by omega, List.nodup_nil, fun x => ⟨(fun e => by cases e), fun e => ?_⟩⟩
    have := fluS_some e.1
    have h2 := e.2
    cases hb : D.buf (x : Int) with
    | none => exact absurd hb this
    | some p => rw [hb] at h2; cases h2
  clear R2 G2 hs2 c0 d1
  go_frame
  go_loopg [1] cnt (fun g v wr => ∃ L left, Fen W wr a D g v L left)
  case atStart => exact ⟨_, _, F0⟩
  case round =>
    clear F0
    obtain ⟨L, left, Q⟩ := hrel
    have HQ := Lib.hid Q
    clear Q
    go_wp2_with (at_next; refine wp_nextZ rfl _ rfl rfl HQ.out.ran undInt ?_ ?_)
    · intro hdone
      have hD := H.out.gr0 HQ.out.gr
      have c0 : wr.cell? ⟨p0, 0, none⟩ = some (.pointer (some ⟨a.bd, 0, none⟩)) := (HQ.out.gr.cell0 hp0).trans C0.out
      have hx8 : ∀ x : Nat, fluS D x = true → x < 8 * D.n := fun x hx => by have := (H.out.ok.sup _ (fluS_some hx)).2; omega
      have hmem : ∀ x : Nat, x ∈ L ↔ fluS D x = true := fun x => by
        rw [HQ.out.mem x]
        refine ⟨fun e => e.1, fun e => ⟨e, hdone _ (wfZ (by omega) ?_)⟩⟩
        have := hx8 x e
        omega
      have HP := Lib.hid (persist_row a D (W.heap.size + 1) _ L wr hD HQ.out.own (fun b hb => by have := H.out.lt b hb; omega) HQ.out.nd (fun x hx => ⟨hx8 x ((hmem x).1 hx), fluS_some ((hmem x).1 hx)⟩) HW.out)
      have HS := Lib.hid (show (fun i => decide (i ∈ L)) = fluS D by funext i; rw [Bool.eq_iff_iff, decide_eq_true_eq]; exact hmem i)
      clear hD hx8 hmem hdone
      go_wp2_with fail
      refine HP.out.mono ?_
      rintro e w3 ⟨rfl, D3, G3⟩
      have HR := Lib.hid (And.intro D3 (HQ.out.gr.of0.trans G3))
      clear D3 G3
      go_wp2_with fail
      go_returns
      exact ⟨rfl, by rw [← HS.out]; exact HR.out.1, HR.out.2⟩
    · intro z u
      constructor
      all_goals
        intro w1 cnt' hz hl hf R1 hlt G1 hs1 hen
        obtain ⟨hz1, hz2⟩ := H.out.ok.sup z (by rw [hf]; simp)
        obtain ⟨x, rfl⟩ := Int.eq_ofNat_of_zero_le hz1
        obtain ⟨f, hff⟩ : ∃ f : Bool, D.buf (x : Int) = some (u, f) := ⟨_, hf⟩
        have HF := Lib.hid (And.intro hf (And.intro hl (And.intro R1 (And.intro G1 hlt))))
        have hlen : L.length ≤ 65536 := by
          have := nodup_len (8 * D.n) L HQ.out.nd (fun y hy => by have := (H.out.ok.sup _ (fluS_some ((HQ.out.mem y).1 hy).1)).2; omega)
          omega
        have hsz := Nat.le_trans HQ.out.size G1.size
        have hbb : a.bb < W.heap.size := H.out.buf.lt
        clear hf hff hl R1 G1 hlt hz hz1 hz2 hs1
      · have he2 : (Instr.entry (.pointer (some ⟨W.heap.size, 0, none⟩))).run Tryz.prog w1 = .ok (.tuple #[.int .i64 (x : Int), .agg #[.int .u64 (u : Int), .bool false]]) w1 := hen
        clear hen
        have HN := Lib.hid (HQ.out.skip HF.out.1 HF.out.2.2.1 HF.out.2.2.2.1 ((Gr.refl [] w1).alloc (Obj.cells #[.int .u64 (u : Int), .bool false] 150)))
        go_wp2_with fail
        go_roundg cnt'
        case measure => exact HF.out.2.2.2.2
        case rel => exact ⟨_, _, HN.out⟩
      · have he2 : (Instr.entry (.pointer (some ⟨W.heap.size, 0, none⟩))).run Tryz.prog w1 = .ok (.tuple #[.int .i64 (x : Int), .agg #[.int .u64 (u : Int), .bool true]]) w1 := hen
        clear hen
        have hown1 := HQ.out.own1 HF.out.2.2.2.1
        have G2 := (Gr.refl [] w1).alloc (Obj.cells #[.int .u64 (u : Int), .bool true] 150)
        go_wp2_with (at_builtin; refine wpList_append_own _ rfl _ _ 101 rfl (W.heap.size + 1) 3 i0 (.int .i64 0) 1 8 Tryz.underlying101 hi hz0 hz1 hz2 rfl (by decide) _ _ _ rfl ((hown1.alloc _).alloc _) ⟨w1.heap.size + 1, 0, none⟩ 1 1 [.int .i64 x] rfl rfl ?c1 ?c2 ?c3 ?c4 ?c5 ?_)
        case c1 =>
          intro a u ha
          match a, ha with
          | 0, ha => simp at ha; subst ha; simp [Addr.add]
        case c2 => intro u hu; simp at hu; subst hu; rfl
        case c3 => unfold maxLen; omega
        case c4 => omega
        case c5 => simp; omega
        intro v' w3 hown3 hgrow _
        have HN := Lib.hid (HQ.out.take HF.out.1 HF.out.2.1 hbb HF.out.2.2.1 HF.out.2.2.2.1 (G2.alloc _) hgrow hown3)
        clear hown3 hgrow hown1 G2
        go_wp2_with fail
        go_roundg cnt'
        case measure => exact HF.out.2.2.2.2
        case rel => exact ⟨_, _, HN.out⟩

end Go.Proofs.YtifekejcbhllpaaGreat

/-
  pm: Fence, whole.
-/
namespace Go.Proofs.YtifekejcbhllpaaGreat
open Go.RowKit

def fenceF (D : DevS) : DevS := { persistD D (fluS D) with cnt := D.cnt + 1 }
theorem Did.ofDev {a : DevA} {D E : DevS} {W W' : World} (h : DevIs W' a E) (g : Gr a.all W W') (hc : E.cnt = D.cnt) : Did a D { E with cnt := D.cnt + 1 } W W' := by
  have c := h.c6
  rw [hc] at c
  have r := h.setCnt (D.cnt + 1) (by omega)
  exact ⟨c, h.fr 6, r, g⟩

set_option maxRecDepth 20000 in
set_option maxHeartbeats 1000000 in
theorem fence_any (a : DevA) (D : DevS) (w : World) (h : DevIs w a D) (hc : D.cnt < 4611686018427387904) (hw : ∀ l, 0 ≤ D.wear l ∧ D.wear l < 4611686018427387904) :
    Calls Tryz.prog 143 #[.pointer (some ⟨a.bd, 0, none⟩)] w fun e w' => e = .returned (.int .i64 (opE D true)) ∧ DevIs w' a (opD D true fenceF) ∧ Gr a.all w w' := by
  have X0 := Holds.new w #[.pointer (some ⟨a.bd, 0, none⟩)] 24
  have g := (Gr.refl [] w).alloc (Obj.cells #[.pointer (some ⟨a.bd, 0, none⟩)] 24)
  have HG := Lib.hid g
  have HT := Lib.hid (h.gr0 g)
  clear g
  by_cases he : reachE D true = 0
  · by_cases hf : D.fuse = 1
    · have HE := Lib.hid (And.intro (opE_fuse he hf) (fun f => opD_fuse (f := f) he hf))
      have HO := Lib.hid (fun g W (q : DevIs W a D) => operate_fuse a D true g W q he hf)
      clear he hf X0 h hw
      go_enter Tryz.func143, Tryz.ntmps143
      go_wp2_with fail
      refine (HO.out _ _ HT.out).mono ?_
      rintro e w' ⟨rfl, d2, g2⟩
      have HR := Lib.hid (And.intro d2 ((HG.out.of0.trans (g2.mono (cs := a.all) (fun b hb => by simp at hb; subst hb; simp [DevA.all])))))
      clear d2 g2
      go_wp2_with fail
      go_ret
      exact ⟨by rw [HE.out.1]; rfl, by rw [HE.out.2]; exact HR.out.1, HR.out.2⟩
    · have HE := Lib.hid (And.intro (opE_ok he hf) (fun f => opD_ok (f := f) he hf))
      have hlt := h.lt
      have na : w.heap.size ∉ a.all := fun hm => by have := hlt _ hm; omega
      have HO := Lib.hid (operate_fence a D (fenceF (lit D)) w.heap.size _ HT.out he hf hc (fun W g d => by
        have e0 := (X0.gr g na).cell 0
        exact (fence1 a (lit D) w.heap.size W d e0 hw).mono fun e W' q => ⟨q.1, Did.ofDev q.2.1 q.2.2 rfl⟩))
      clear he hf X0 h hlt na hw
      go_enter Tryz.func143, Tryz.ntmps143
      go_wp2_with fail
      refine HO.out.mono ?_
      rintro e w' ⟨rfl, d2, g2⟩
      have HR := Lib.hid (And.intro d2 (HG.out.of0.trans g2))
      clear d2 g2
      go_wp2_with fail
      go_ret
      exact ⟨by rw [HE.out.1]; rfl, by rw [HE.out.2]; exact HR.out.1, HR.out.2⟩
  · have HE := Lib.hid (And.intro (opE_err he) (fun f => opD_err (f := f) he))
    have HO := Lib.hid (fun g => operate_err a D true g _ HT.out he)
    clear he X0 h hw
    go_enter Tryz.func143, Tryz.ntmps143
    go_wp2_with fail
    refine (HO.out _).mono ?_
    rintro e w' ⟨rfl, rfl⟩
    go_wp2_with fail
    go_ret
    exact ⟨by rw [HE.out.1]; rfl, by rw [HE.out.2]; exact HT.out, HG.out.of0⟩

end Go.Proofs.YtifekejcbhllpaaGreat

/-
  pm: Boot (Pending's contract is a premise).
-/
namespace Go.Proofs.YtifekejcbhllpaaGreat
open Go.RowKit

def IsPend (D : DevS) (L : List Nat) : Prop := L.Pairwise (· < ·) ∧ ∀ x : Nat, x ∈ L ↔ D.buf (x : Int) ≠ none

section
variable {P : Program} {k e t : TypeId} {α : Type} {E : EltLaw P e α} {w : World} {b n r : Nat} {f : Int → Option α} {ops : Array Oper} {rest : List Oper} {o : Oper} {a : Act} {Q : Exit → Act → World → Prop}
end

/-! ### Boot -/
def bootS (L : List Nat) (kp : Nat → Bool) : Nat → Bool := fun i => (List.range L.length).any fun j => kp j && decide (L[j]? = some i)
def bootD (D : DevS) (L : List Nat) (kp : Nat → Bool) : DevS := { persistD D (bootS L kp) with buf := fun _ => none, fuse := 0, off := false }
structure Boo (w1 wr : World) (L : List Nat) (kp : Nat → Bool) (v : Value) (M : List Nat) (k : Nat) : Prop where
  own : wr.ownsRow w1.heap.size 3 1 v M.length (M.map iW)
  gr : Gr [] w1 wr
  nd : M.Nodup
  mem : ∀ x, x ∈ M ↔ ∃ j, j < k ∧ kp j = true ∧ L[j]? = some x
theorem Boo.all {w1 wr : World} {L M : List Nat} {kp : Nat → Bool} {v : Value} (Q : Boo w1 wr L kp v M L.length) : (fun i => decide (i ∈ M)) = bootS L kp := by
  funext i
  unfold bootS
  rw [Bool.eq_iff_iff, decide_eq_true_eq, Q.mem i, List.any_eq_true]
  constructor
  · rintro ⟨j, h1, h2, h3⟩; exact ⟨j, by rw [List.mem_range]; exact h1, by simp [h2, h3]⟩
  · rintro ⟨j, h1, h2⟩
    rw [List.mem_range] at h1
    rw [Bool.and_eq_true, decide_eq_true_eq] at h2
    exact ⟨j, h1, h2.1, h2.2⟩

end Go.Proofs.YtifekejcbhllpaaGreat

/-
  Layer 3's laws: what the document fixes (wakes).
-/
namespace Go.Proofs.YtifekejcbhllpaaGreat
open Go.RowKit

theorem live_e {D : DevS} {t : Bool} (h1 : D.off = false) (h2 : D.fuse = 0) (ht : t = true) : opE D t = 0 ∧ ∀ f, opD D t f = f D := by
  have hr : reachE D t = 0 := by unfold reachE; rw [h1, ht]; rfl
  have hl : lit D = D := by unfold lit; rw [if_neg (by omega)]
  exact ⟨opE_ok hr (by omega), fun f => by rw [opD_ok hr (by omega), hl]⟩
section
variable {a : DevA} {w : World} {m c : Nat} {b : Option (Nat × Bool)} {v : Int}
end

end Go.Proofs.YtifekejcbhllpaaGreat
