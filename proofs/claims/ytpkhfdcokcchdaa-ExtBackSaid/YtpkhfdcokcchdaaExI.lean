/-
  Layer 15: slices.DeleteFunc, as Cut calls it.
-/
import Derived.Test.YtpkhfdcokcchdaaExH
import Derived.Laws.IdiomCopy
namespace Go.Proofs.Ytpkhfdcokcchdaa
open Go.RowKit

theorem ehole_any (e1 e2 : Int) (w : World) :
    Calls Try.prog 104 #[.agg #[.int .i64 e1, .int .i64 e2]] w fun e w' => e = .returned (.bool (e1 == -1)) ∧ Gr [] w w' := by
  have HG := Lib.hid ((Gr.refl [] w).alloc (Obj.cells #[.int .i64 e1, .int .i64 e2] 35))
  go_enter Try.func104, Try.ntmps104
  go_wp2_with fail
  go_ret
  exact ⟨rfl, HG.out⟩
theorem grT_ofX {w w' : World} {bs : List Nat} (h : Gr [] w w') : Gr bs w w' := h.mono (fun x hx => by simp at hx)
def solidB (e : Int × Int) : Bool := !(e.1 == -1)
set_option maxHeartbeats 1000000 in
theorem eidx_any (l : List (Int × Int)) (L : Nat) (ao : Option Addr) (cap : Nat) (w : World) (h : Rd2 w ao l) (hL : L = l.length) (hL2 : L ≤ 100) :
    Calls Try.prog 117 #[.slice ao L cap, .func (.func 104) #[] #[]] w fun e w' => Gr [] w w' ∧ ((∃ (k : Nat) (e0 : Int × Int), l[k]? = some e0 ∧ solidB e0 = false ∧ (∀ (j : Nat) (e : Int × Int), j < k → l[j]? = some e → solidB e = true) ∧ e = .returned (.int .i64 (k : Nat))) ∨ (∀ (j : Nat) (e : Int × Int), l[j]? = some e → solidB e = true) ∧ e = .returned (.int .i64 (-1))) := by
  have HR := Lib.hid h
  have HL := Lib.hid hL
  clear h hL
  go_enter Try.func117, Try.ntmps117
  go_wp2_with fail
  go_loopw [8] (fun i wr => ∃ k : Nat, k ≤ L ∧ i = .int .i64 k ∧ Gr [] w wr ∧ Hid (∀ j e, j < k → l[j]? = some e → solidB e = true)) (fun i _ => L - (intOf i).toNat)
  case atStart => exact ⟨0, by omega, rfl, Gr.refl _ _, Lib.hid (fun j x hj => by omega)⟩
  case round =>
    obtain ⟨k, hk, rfl, G, HB⟩ := hrel
    have HG := Lib.hid G
    clear G
    by_cases hlt : k < L
    · obtain ⟨⟨e1, e2⟩, he⟩ : ∃ e, l[k]? = some e := ⟨_, List.getElem?_eq_getElem (by have := HL.out; omega)⟩
      obtain ⟨b, o, hao, hb, c1, c2⟩ := HR.out k _ he
      subst hao
      have d1 : wr.cell? ⟨b, o + k * 2, none⟩ = some (.int .i64 e1) := (HG.out.cell0 hb).trans c1
      have d2 : wr.cell? ⟨b, o + k * 2 + 1, none⟩ = some (.int .i64 e2) := (HG.out.cell0 hb).trans c2
      have HE := Lib.hid he
      have hkL2 : (k : Int) < (L : Int) := by omega
      clear c1 c2 he
      cases q : (e1 == -1) with
      | true =>
        have HC := Lib.hid (ehole_any e1 e2 wr)
        rw [q] at HC
        have HS := Lib.hid (show solidB (e1, e2) = false by unfold solidB; simp only; rw [q]; rfl)
        clear q
        go_wp2_with fail
        refine HC.out.mono ?_
        rintro e' w' ⟨rfl, g⟩
        have HG2 := Lib.hid (HG.out.next0 g)
        clear g
        go_wp2_with fail
        go_ret
        exact ⟨HG2.out, .inl ⟨k, _, HE.out, HS.out, HB.out, rfl⟩⟩
      | false =>
        have HC := Lib.hid (ehole_any e1 e2 wr)
        rw [q] at HC
        have HF := Lib.hid (show ∀ j e, j < k + 1 → l[j]? = some e → solidB e = true from fun j e hj hx => by
          by_cases z : j = k
          · subst z
            rw [HE.out] at hx
            injection hx with hx
            subst hx
            unfold solidB; simp only; rw [q]; rfl
          · exact HB.out j e (by omega) hx)
        clear q
        go_wp2_with fail
        refine HC.out.mono ?_
        rintro e' w' ⟨rfl, g⟩
        have HG2 := Lib.hid (HG.out.next0 g)
        clear g
        go_wp2
        go_roundw
        case rel => exact ⟨k + 1, by omega, by go_num, HG2.out, HF⟩
        case measure => simp [intOf]; omega
    · obtain rfl : k = L := by omega
      have HF := Lib.hid (show ∀ j e, l[j]? = some e → solidB e = true from fun j e hx => HB.out j e (by have := (List.getElem?_eq_some_iff.1 hx).1; have := HL.out; omega) hx)
      go_wp2_with fail
      go_ret
      exact ⟨HG.out, .inr ⟨HF.out, rfl⟩⟩

/-! ### A row's first part -/
theorem own_prefix {w : World} {base : Nat} {e : TypeId} {g n cap i : Nat} {xs : List Value} (h : w.ownsRow base e 2 (.slice (some ⟨g, 0, none⟩) n cap) n xs) (hi : i ≤ n) : w.ownsRow base e 2 (.slice (some ⟨g, 0, none⟩) i cap) i (xs.take (i * 2)) := by
  rcases h.2 with ⟨q, _⟩ | ⟨g', cap', cur, q, hb, hg, h1, h2, h3, h4⟩
  · cases q
  · injection q with q1 q2 q3
    injection q1 with q1
    injection q1 with q1
    subst q1 q3
    have hl := h.1
    refine ⟨by rw [List.length_take]; omega, .inr ⟨g, cap, cur, rfl, hb, hg, by omega, h2, h3, ?_⟩⟩
    rw [← h4, List.take_take, show min (i * 2) (n * 2) = i * 2 by omega]
theorem own_capX {w : World} {base : Nat} {e : TypeId} {g n cap : Nat} {xs : List Value} (h : w.ownsRow base e 2 (.slice (some ⟨g, 0, none⟩) n cap) n xs) : n ≤ cap := by
  rcases h.2 with ⟨q, _⟩ | ⟨g', cap', cur, q, hb, hg, h1, h2, h3, h4⟩
  · cases q
  · injection q with q1 q2 q3
    subst q3
    exact h1
theorem own_hi {base : Nat} {e : TypeId} {g n cap : Nat} {xs : List Value} (vs : List Value) : ∀ (o : Nat) (w : World), n * 2 ≤ o → w.ownsRow base e 2 (.slice (some ⟨g, 0, none⟩) n cap) n xs → (w.setCells g o vs).ownsRow base e 2 (.slice (some ⟨g, 0, none⟩) n cap) n xs := by
  induction vs with
  | nil => intro o w _ h; exact h
  | cons v r ih =>
    intro o w ho h
    refine ih (o + 1) _ (by omega) ?_
    have := (h.stored o v).1
    rw [List.set_eq_of_length_le (by have := h.1; omega)] at this
    exact this
theorem gr_setCells {g : Nat} {w0 : World} (vs : List Value) : ∀ (o : Nat) (w : World), Gr [g] w0 w → Gr [g] w0 (w.setCells g o vs) := by
  induction vs with
  | nil => intro o w h; exact h
  | cons v r ih =>
    intro o w h
    exact ih (o + 1) _ (h.setCell (p := ⟨g, o, none⟩) (.inl (by simp)) _)
theorem zeroE : ∀ w, (zeroValue 35).run Try.prog w = .ok (.agg #[.int .i64 0, .int .i64 0]) w := Try.zeroValue35
theorem run_clear2 (w : World) (ty : TypeId) (b o n c : Nat) (hn : 0 < n)
    (hc : ∀ j, j < n * 2 → (w.cell? ⟨b, o + j, none⟩).isSome = true) (hf : ∀ j, j < n * 2 → w.frozen? ⟨b, o + j, none⟩ = false) :
    (Builtin.clear_ #[82] ty #[.slice (some ⟨b, o, none⟩) n c]).run Try.prog w = .ok (.tuple #[]) (w.setCells b o (List.replicate (n * 2) (.int .i64 0))) := by
  have hzc : (Builtin.zeroCells (Value.cells (.agg #[.int .i64 0, .int .i64 0])) n).toList = List.replicate (n * 2) (.int .i64 0) := by
    simp [Builtin.zeroCells, Value.cells]
    apply List.ext_getElem
    · simp
    · intro i h1 h2
      simp
      rcases Nat.mod_two_eq_zero_or_one i with q | q <;> simp [q]
  have hst := run_storeCells_cells (P := Try.prog) b o (List.replicate (n * 2) (.int .i64 0)) 0 w (by simpa using hc) (by simpa using hf) (by intro v hv'; rw [List.eq_of_mem_replicate hv']; rfl)
  simp only [Nat.add_zero] at hst
  obtain ⟨m, rfl⟩ : ∃ m, n = m + 1 := ⟨n - 1, by omega⟩
  simp [Builtin.clear_, run_underlying Try.underlying82, hzc, hst]
theorem cells2_set (X : List (Int × Int)) (i : Nat) (e : Int × Int) (hi : i < X.length) : ((cells2 X).set (i * 2) (.int .i64 e.1)).set (i * 2 + 1) (.int .i64 e.2) = cells2 (X.set i e) := by
  induction X generalizing i with
  | nil => simp at hi
  | cons x r ih =>
    cases i with
    | zero => rfl
    | succ i =>
      have := ih i (by simpa using hi)
      rw [show (i + 1) * 2 = i * 2 + 2 by omega, show i * 2 + 2 + 1 = i * 2 + 1 + 2 by omega]
      rw [cells2_cons, List.set_cons_succ, List.set_cons_succ, List.set_cons_succ, List.set_cons_succ, this]
      rfl

set_option maxHeartbeats 4000000 in
set_option maxRecDepth 20000 in
theorem edelete_any (l : List (Int × Int)) (L base : Nat) (v : Value) (w : World) (h : w.ownsRow base 35 2 v L (cells2 l)) (hL2 : L ≤ 100) :
    Calls Try.prog 103 #[v, .func (.func 104) #[] #[]] w fun e w' => ∃ v', e = .returned v' ∧ w'.ownsRow base 35 2 v' (l.filter solidB).length (cells2 (l.filter solidB)) ∧ Gr v.ownBlock.toList w w' := by
  have hL : L = l.length := by have := h.1; rw [cells2_len] at this; omega
  obtain ⟨ao, cap, hv⟩ := own_form h
  subst hv
  have hrd := own_sl2 h
  have HC := Lib.hid (eidx_any l L ao cap w (by obtain ⟨a, c, hq, hr, -⟩ := hrd; injection hq with q1 _ _; subst q1; exact hr) hL hL2)
  have HO := Lib.hid h
  have HL := Lib.hid hL
  clear h hL hrd
  go_enter Try.func103, Try.ntmps103
  go_wp2_with fail
  refine HC.out.mono ?_
  rintro e w1 ⟨g1, ⟨k0, e0, hk0, hs0, hall, rfl⟩ | ⟨hall, rfl⟩⟩
  · have hk0L : k0 < L := by have := (List.getElem?_eq_some_iff.1 hk0).1; have := HL.out; omega
    obtain ⟨g, cp, hgv, hgb, hgl⟩ := HO.out.form (by omega)
    injection hgv with q1 q2 q3
    subst q1 q3
    have H1 := Lib.hid (And.intro (own_gr0 HO.out g1) (grT_ofX (bs := [g]) g1))
    have HFI := Lib.hid (show (l.take k0) = (l.take (k0 + 1)).filter solidB by
      obtain ⟨a, b⟩ := List.getElem?_eq_some_iff.1 hk0
      rw [List.take_succ_eq_append_getElem a, b, List.filter_append]
      rw [show [e0].filter solidB = [] by simp [hs0], List.append_nil]
      refine (List.filter_eq_self.2 fun x hx => ?_).symm
      obtain ⟨j, hj⟩ := List.mem_iff_getElem?.1 hx
      have hjk : j < k0 := by have := (List.getElem?_eq_some_iff.1 hj).1; simp at this; omega
      rw [List.getElem?_take_of_lt hjk] at hj
      exact hall j x hjk hj)
    have dk : ((k0 : Int) == -1) = false := by simp
    have dk2 : decide ((k0 : Int) = -1) = false := by simp
    clear hall g1 hk0 hs0 HC q2
    go_wp2_with fail
    clear dk dk2
    go_loopw [5, 6] (fun iv jv wr => ∃ (i j : Nat) (X : List (Int × Int)), j ≤ L ∧ i < j ∧ iv = .int .i64 i ∧ jv = .int .i64 j ∧ X.length = L ∧ Hid (X.take i = (l.take j).filter solidB) ∧ Hid (X.drop j = l.drop j) ∧ wr.ownsRow base 35 2 (.slice (some ⟨g, 0, none⟩) L cap) L (cells2 X) ∧ Gr [g] w wr) (fun _ jv _ => L - (intOf jv).toNat)
    case atStart => exact ⟨k0, k0 + 1, l, by omega, by omega, rfl, by go_num, HL.out.symm, HFI, Lib.hid rfl, H1.out.1, H1.out.2⟩
    case round =>
      clear H1
      obtain ⟨i, j, X, hj, hij, rfl, rfl, hXl, HX1, HX2, ho, G⟩ := hrel
      have HQ := Lib.hid (And.intro ho G)
      have hgw : g < wr.heap.size := (ho.lt g rfl).2
      clear ho G
      by_cases hjL : j < L
      · have hjL2 : (j : Int) < (L : Int) := by omega
        obtain ⟨⟨e1, e2⟩, he⟩ : ∃ e, X[j]? = some e := ⟨_, List.getElem?_eq_getElem (by omega)⟩
        have hel : l[j]? = some (e1, e2) := by
          have : (X.drop j)[0]? = (l.drop j)[0]? := by rw [HX2.out]
          rw [List.getElem?_drop, List.getElem?_drop, Nat.add_zero, he] at this
          exact this.symm
        obtain ⟨q0, q1⟩ := cells2_get X j _ he
        have y0 : wr.cell? ⟨g, j * 2, none⟩ = some (.int .i64 e1) := by rw [HQ.out.1.cellAt _ (by omega)]; exact q0
        have y1 : wr.cell? ⟨g, j * 2 + 1, none⟩ = some (.int .i64 e2) := by rw [HQ.out.1.cellAt _ (by omega)]; exact q1
        have HBX := Lib.hid (Holds.new wr #[.int .i64 e1, .int .i64 e2] 35)
        have HOA := Lib.hid (HQ.out.1.alloc (Obj.cells #[.int .i64 e1, .int .i64 e2] 35))
        have HGA := Lib.hid (HQ.out.2.alloc (Obj.cells #[.int .i64 e1, .int .i64 e2] 35))
        have HFS := Lib.hid (show (l.take (j + 1)).filter solidB = (l.take j).filter solidB ++ (if solidB (e1, e2) = true then [(e1, e2)] else []) by
          obtain ⟨a, b⟩ := List.getElem?_eq_some_iff.1 hel
          rw [List.take_succ_eq_append_getElem a, b, List.filter_append]
          congr 1
          by_cases z : solidB (e1, e2) = true <;> simp [z])
        have HDR := Lib.hid (show X.drop (j + 1) = l.drop (j + 1) by rw [← List.drop_drop, ← List.drop_drop, HX2.out])
        have HC := Lib.hid (fun W => ehole_any e1 e2 W)
        have hbne : wr.heap.size ≠ g := by omega
        have z0 := HBX.out.cell 0
        have z1 := HBX.out.cell 1
        clear q0 q1 he hel
        cases q : (e1 == -1) with
        | true =>
          rw [q] at HC
          have hs : solidB (e1, e2) = false := by unfold solidB; simp only; rw [q]; rfl
          rw [if_neg (by rw [hs]; simp), List.append_nil] at HFS
          clear q hs
          go_wp2_with fail
          refine (HC.out _).mono ?_
          rintro e' w6 ⟨rfl, g6⟩
          have H6 := Lib.hid (And.intro (own_gr0 HOA.out g6) (HGA.out.next0 g6))
          clear g6 z0 z1 y0 y1
          go_wp2_with fail
          go_roundw
          case rel => exact ⟨i, j + 1, X, by omega, by omega, rfl, by go_num, hXl, Lib.hid (by rw [HFS.out]; exact HX1.out), HDR, H6.out.1, H6.out.2⟩
          case measure => simp [intOf]; omega
        | false =>
          rw [q] at HC
          have hs : solidB (e1, e2) = true := by unfold solidB; simp only; rw [q]; rfl
          rw [if_pos hs] at HFS
          clear q hs
          go_wp2_with fail
          refine (HC.out _).mono ?_
          rintro e' w6 ⟨rfl, g6⟩
          have H6 := Lib.hid (And.intro (own_gr0 HOA.out g6) (HGA.out.next0 g6))
          have HB6 := Lib.hid (HBX.out.gr0 g6)
          clear g6 z0 z1 y0 y1
          obtain ⟨⟨x1, x2⟩, hxi⟩ : ∃ e, X[i]? = some e := ⟨_, List.getElem?_eq_getElem (by omega)⟩
          obtain ⟨q0, q1⟩ := cells2_get X i _ hxi
          have u0 : w6.cell? ⟨g, i * 2, none⟩ = some (.int .i64 x1) := by rw [H6.out.1.cellAt _ (by omega)]; exact q0
          have u1 : w6.cell? ⟨g, i * 2 + 1, none⟩ = some (.int .i64 x2) := by rw [H6.out.1.cellAt _ (by omega)]; exact q1
          have f0 : w6.frozen? ⟨g, i * 2, none⟩ = false := H6.out.1.frozenAt _
          have f1 : w6.frozen? ⟨g, i * 2 + 1, none⟩ = false := H6.out.1.frozenAt _
          have z0 := HB6.out.cell 0
          have z1 := HB6.out.cell 1
          have hiL : (i : Int) < (L : Int) := by omega
          have HUP := Lib.hid (show ((w6.setCell ⟨g, i * 2, none⟩ (.int .i64 e1)).setCell ⟨g, i * 2 + 1, none⟩ (.int .i64 e2)).ownsRow base 35 2 (.slice (some ⟨g, 0, none⟩) L cap) L (cells2 (X.set i (e1, e2))) ∧ Gr [g] w ((w6.setCell ⟨g, i * 2, none⟩ (.int .i64 e1)).setCell ⟨g, i * 2 + 1, none⟩ (.int .i64 e2)) from by
            have s1 := (H6.out.1.stored (i * 2) (.int .i64 e1)).1
            have s2 := (s1.stored (i * 2 + 1) (.int .i64 e2)).1
            have hcs := cells2_set X i (e1, e2) (by omega)
            simp only at hcs
            rw [hcs] at s2
            exact ⟨s2, (H6.out.2.setCell (p := ⟨g, i * 2, none⟩) (.inl (by simp)) _).setCell (p := ⟨g, i * 2 + 1, none⟩) (.inl (by simp)) _⟩)
          have HT2 := Lib.hid (show (X.set i (e1, e2)).take (i + 1) = (l.take (j + 1)).filter solidB by
            rw [HFS.out, ← HX1.out]
            have hlt : i < (X.set i (e1, e2)).length := by rw [List.length_set]; omega
            rw [List.take_succ_eq_append_getElem hlt]
            congr 1
            · rw [List.take_set_of_le (by omega)]
            · simp)
          have HD2 := Lib.hid (show (X.set i (e1, e2)).drop (j + 1) = l.drop (j + 1) by
            rw [List.drop_set_of_lt (by omega)]; exact HDR.out)
          clear hxi q0 q1
          go_wp2_with fail
          go_roundw
          case rel => exact ⟨i + 1, j + 1, X.set i (e1, e2), by omega, by omega, by go_num, by go_num, by rw [List.length_set]; exact hXl, HT2, HD2, HUP.out.1, HUP.out.2⟩
          case measure => simp [intOf]; omega
      · obtain rfl : j = L := by omega
        have hnk : ((j : Int) - (i : Int)) = ((j - i : Nat) : Int) := by omega
        have HCL := Lib.hid (run_clear2 wr · g (i * 2) (j - i) (cap - i) (by omega) (fun q hq => by
          rw [HQ.out.1.cellAt _ (by omega)]
          rw [List.getElem?_eq_getElem (by rw [cells2_len]; omega)]; rfl) (fun q hq => HQ.out.1.frozenAt _))
        have hcl := HCL.out
        have hcapj : j ≤ cap := own_capX HQ.out.1
        have HFIN := Lib.hid (show (wr.setCells g (i * 2) (List.replicate ((j - i) * 2) (.int .i64 0))).ownsRow base 35 2 (.slice (some ⟨g, 0, none⟩) i cap) i (cells2 (l.filter solidB)) ∧ Gr [g] w (wr.setCells g (i * 2) (List.replicate ((j - i) * 2) (.int .i64 0))) from by
          have hp := own_hi (List.replicate ((j - i) * 2) (.int .i64 0)) (i * 2) wr (Nat.le_refl _) (own_prefix HQ.out.1 (Nat.le_of_lt hij))
          refine ⟨?_, gr_setCells _ _ _ HQ.out.2⟩
          have e1 : (cells2 X).take (i * 2) = cells2 (l.filter solidB) := by
            have hx := HX1.out
            rw [show l.take j = l by rw [HL.out]; exact List.take_length] at hx
            rw [← hx]
            have : cells2 X = cells2 (X.take i) ++ cells2 (X.drop i) := by rw [← cells2_append, List.take_append_drop]
            rw [this, List.take_left' (by rw [cells2_len, List.length_take]; omega)]
          rw [e1] at hp
          exact hp)
        have hlen : (l.filter solidB).length = i := by
          have hx := HX1.out
          rw [show l.take j = l by rw [HL.out]; exact List.take_length] at hx
          rw [← hx, List.length_take]; omega
        have HLE := Lib.hid hlen
        clear hlen
        go_wp2_with fail
        go_ret
        exact ⟨_, rfl, by rw [HLE.out]; exact HFIN.out.1, HFIN.out.2⟩
  · have HF := Lib.hid (show l.filter solidB = l from List.filter_eq_self.2 fun x hx => by
      obtain ⟨j, hj⟩ := List.mem_iff_getElem?.1 hx
      exact hall j x hj)
    have H1 := Lib.hid (And.intro (own_gr0 HO.out g1) g1)
    clear hall g1 HC
    go_wp2_with fail
    go_ret
    exact ⟨_, rfl, by rw [HF.out, ← HL.out]; exact H1.out.1, grT_ofX H1.out.2⟩

end Go.Proofs.Ytpkhfdcokcchdaa
