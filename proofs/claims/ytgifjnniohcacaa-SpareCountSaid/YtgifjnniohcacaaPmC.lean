/-
  pm.Load; pm.New.
-/
import Derived.Test.YtgifjnniohcacaaPmB
namespace Go.Proofs.Ytgifjnniohcacaa
open Go.RowKit

theorem undInt : Try.prog.underlying 3 = some (.int .i64) := Try.underlying3
/-- What a word reads as. -/
def loadV (D : DevS) (i : Nat) : Nat := match D.buf i with | some p => p.1 | none => D.med i

theorem load_nil (z : Int) (w : World) : Calls Try.prog 32 #[.pointer none, .int .i64 z] w fun e w' => e = .returned (.tuple #[.int .u64 0, .int .i64 1]) ∧ w = w' := by
  go_enter Try.func32, Try.ntmps32
  go_wp2_with fail
  refine (hasWord_nil z _).mono ?_
  rintro e w' ⟨rfl, rfl⟩
  go_wp2_with fail
  refine (reach_nil false _).mono ?_
  rintro e w' ⟨rfl, rfl⟩
  go_wp2_with fail
  go_ret2
  exact ⟨rfl, rfl⟩
theorem load_err (a : DevA) (D : DevS) (z : Int) (w : World) (h : DevIs w a D) (he : reachE D (decide (0 ≤ z ∧ z < 8 * D.n)) ≠ 0) :
    Calls Try.prog 32 #[.pointer (some ⟨a.bd, 0, none⟩), .int .i64 z] w fun e w' => e = .returned (.tuple #[.int .u64 0, .int .i64 (reachE D (decide (0 ≤ z ∧ z < 8 * D.n)))]) ∧ w = w' := by
  have H1 := Lib.hid (hasWord_any a D w h z)
  have H2 := Lib.hid (fun t => reach_any a D t w h)
  generalize decide (0 ≤ z ∧ z < 8 * D.n) = t at *
  have HR := H2.out t
  obtain ⟨e0, he0⟩ : ∃ e0, reachE D t = e0 := ⟨_, rfl⟩
  rw [he0] at he HR ⊢
  have H3 := Lib.hid HR
  have hd : (e0 == 0) = false := by simpa using he
  clear HR h he0 H2
  go_enter Try.func32, Try.ntmps32
  go_wp2_with fail
  refine H1.out.mono ?_
  rintro e w' ⟨rfl, rfl⟩
  go_wp2_with fail
  refine H3.out.mono ?_
  rintro e w' ⟨rfl, rfl⟩
  go_wp2_with fail
  go_ret2
  exact ⟨rfl, rfl⟩
set_option maxHeartbeats 1000000 in
theorem load_ok (a : DevA) (D : DevS) (i : Nat) (w : World) (h : DevIs w a D) (hoff : D.off = false) (hi : i < 8 * D.n) :
    Calls Try.prog 32 #[.pointer (some ⟨a.bd, 0, none⟩), .int .i64 i] w fun e w' => e = .returned (.tuple #[.int .u64 (loadV D i : Int), .int .i64 0]) ∧ Gr [] w w' := by
  have H1 := Lib.hid (hasWord_any a D w h i)
  have hr := reach_any a D (decide (0 ≤ (i : Int) ∧ (i : Int) < 8 * D.n)) w h
  have e0 : reachE D (decide (0 ≤ (i : Int) ∧ (i : Int) < 8 * D.n)) = 0 := by
    unfold reachE
    rw [hoff, decide_eq_true (by omega)]
    rfl
  rw [e0] at hr
  have H2 := Lib.hid hr
  clear hr e0
  have c0 := h.c0
  have c1 := h.c1
  have hm := h.medAt hi
  have hn := h.ok.hi
  have hlt : a.bd < w.heap.size := h.lt _ (by simp [DevA.all])
  have hlt2 : a.bm < w.heap.size := h.lt _ (by simp [DevA.all])
  have HB := Lib.hid h.buf
  have hwz : WfZ (i : Int) := wfZ (by omega) (by omega)
  have HW := Lib.hid hwz
  clear h hwz hoff
  generalize decide (0 ≤ (i : Int) ∧ (i : Int) < 8 * D.n) = t at *
  obtain ⟨n, hn'⟩ : ∃ n, D.n = n := ⟨_, rfl⟩
  rw [hn'] at c0 hi hn
  clear hn'
  cases hb : D.buf (i : Int) with
  | some p =>
    obtain ⟨v, f⟩ := p
    have HL := Lib.hid (show loadV D i = v by unfold loadV; rw [hb])
    have HV := Lib.hid (show Value.tuple #[cellE.val ((D.buf (i : Int)).getD cellE.zero), .bool (D.buf (i : Int)).isSome] = .tuple #[.agg #[.int .u64 (v : Int), .bool f], .bool true] by rw [hb]; rfl)
    clear hb
    go_enter Try.func32, Try.ntmps32
    go_wp2_with fail
    refine H1.out.mono ?_
    rintro e w' ⟨rfl, rfl⟩
    go_wp2_with fail
    refine H2.out.mono ?_
    rintro e w' ⟨rfl, rfl⟩
    go_wp2_with (at_lookup; refine wp_lookZ_oks rfl _ _ rfl rfl HB.out undInt Try.underlying67 (i : Int) rfl HW.out _ HV.out ?_)
    go_ret2
    exact ⟨by rw [HL.out] <;> rfl, (Gr.refl _ _).alloc _⟩
  | none =>
    have HL := Lib.hid (show loadV D i = D.med i by unfold loadV; rw [hb])
    have HV := Lib.hid (show Value.tuple #[cellE.val ((D.buf (i : Int)).getD cellE.zero), .bool (D.buf (i : Int)).isSome] = .tuple #[.agg #[.int .u64 0, .bool false], .bool false] by rw [hb]; rfl)
    clear hb
    go_enter Try.func32, Try.ntmps32
    go_wp2_with fail
    refine H1.out.mono ?_
    rintro e w' ⟨rfl, rfl⟩
    go_wp2_with fail
    refine H2.out.mono ?_
    rintro e w' ⟨rfl, rfl⟩
    go_wp2_with (at_lookup; refine wp_lookZ_oks rfl _ _ rfl rfl HB.out undInt Try.underlying67 (i : Int) rfl HW.out _ HV.out ?_)
    go_ret2
    exact ⟨by rw [HL.out] <;> rfl, (Gr.refl _ _).alloc _⟩


end Go.Proofs.Ytgifjnniohcacaa
