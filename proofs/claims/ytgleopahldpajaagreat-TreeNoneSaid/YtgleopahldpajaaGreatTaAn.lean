/-
  TaAn: PaR, PaW, TrM.
-/
import Derived.Test.YtgleopahldpajaaGreatTaAm
import Derived.Sort.CutIn
import Derived.Deep.RegionHeld3
import Derived.RegionTactic

set_option linter.unusedVariables false

/-
  Layer 18: the program's Parse.
-/
namespace Go.Proofs.YtgleopahldpajaaGreat
open Go.RowKit Go.Shelf

attribute [local go_sem] Oper.semAt_some

/-- What Parse answers. -/
def ParS (s : List UInt8) (w : World) (e : Ending) (w' : World) : Prop :=
  Gr [] w w' ∧ ((errP s ≠ 0 ∧ e = .returned (.tuple #[.agg #[.bool false, .slice none 0 0, .bool false], .int .i64 (errP s)])) ∨
    (errP s = 0 ∧ ∃ v, e = .returned (.tuple #[.agg #[.bool (absP s), v, .bool (dirP s)], .int .i64 0]) ∧ w'.ownsRow w.heap.size 9 1 v (partsP s).length ((partsP s).map sv)))
theorem parse_ret (w : World) (s : List UInt8) (n : Int) (hn : n = errP s) (h0 : n ≠ 0) (a : Act) (hd : a.defers = []) (h2 : a.tmps[2]?.getD undef = .pointer (some ⟨w.heap.size, 0, none⟩)) (h3 : a.tmps[3]?.getD undef = .pointer (some ⟨w.heap.size + 1, 0, none⟩)) :
    bodyPost Tryz.prog Tryz.f19 (ParS s w) Exit.ret a ((w.alloc (Obj.cells #[.bool false, .slice none 0 0, .bool false] 52)).alloc (Obj.cells #[.int .i64 n] 34)) := by
  have H0 := (Holds.new w #[.bool false, .slice none 0 0, .bool false] 52).alloc (Obj.cells #[.int .i64 n] 34)
  have H1 := Holds.new (w.alloc (Obj.cells #[.bool false, .slice none 0 0, .bool false] 52)) #[.int .i64 n] 34
  rw [World.size_alloc] at H1
  have r0 := H0.cell 0
  have r1 := H0.cell 1
  have r2 := H0.cell 2
  have r3 := H1.cell 0
  refine bodyPost_ret (v := .tuple #[.agg #[.bool false, .slice none 0 0, .bool false], .int .i64 n]) ?_ hd ⟨((Gr.refl [] w).alloc _).alloc _, .inl ⟨by rw [← hn]; exact h0, by rw [hn]⟩⟩
  simp [results, Tryz.results19, go_sem, *]
set_option maxRecDepth 100000 in
set_option maxHeartbeats 4000000 in
theorem parse_nil (w : World) : Calls Tryz.prog 19 #[.string (bsL [])] w (ParS [] w) := by
  have hl := bsL_list []
  go_enter Tryz.func19, Tryz.ntmps19
  go_wp2
  exact parse_ret w [] 13 rfl (by decide) _ rfl rfl rfl
set_option maxRecDepth 100000 in
set_option maxHeartbeats 4000000 in
theorem parse_long (s : List UInt8) (w : World) (h : 256 < s.length) : Calls Tryz.prog 19 #[.string (bsL s)] w (ParS s w) := by
  have hl := bsL_list s
  have h0 : s ≠ [] := fun e => by subst e; simp at h
  have f0 : s.isEmpty = false := by simpa using h0
  have hz := bsL_size s
  have i1 : (256 : Int) < ((bsL s).size : Int) := by omega
  have he : (9 : Int) = errP s := by unfold errP; rw [if_neg h0, if_pos h]
  have HE := Lib.hid he
  clear he
  go_enter Tryz.func19, Tryz.ntmps19
  go_wp2
  exact parse_ret w s 9 HE.out (by decide) _ rfl rfl rfl

theorem Holds.kept {W W' : World} {row : Option Nat} {B : Nat} {t : TypeId} {cs : Array Value} (h : Holds W B cs t) (hg : W.grownBy W' row) (hne : some B ≠ row) : Holds W' B cs t := (hg.block B h.lt hne).trans h
theorem Holds.not_row {W : World} {B : Nat} {t e : TypeId} {cs : Array Value} (h : Holds W B cs t) (hte : t ≠ e) {base size k : Nat} {v : Value} {xs : List Value} (hr : W.ownsRow base e size v k xs) : some B ≠ v.ownBlock := by
  rcases hr.2 with ⟨rfl, _⟩ | ⟨g, cap, cur, rfl, _, hgb, _⟩
  · simp [Value.ownBlock]
  · intro e'
    obtain rfl : B = g := by simpa [Value.ownBlock] using e'
    have := (show W.heap[B]? = _ from h).symm.trans hgb
    simp at this
    exact hte this.2
theorem KeepsOthers.below {W W' : World} (h : Below W.heap.size W W') : KeepsOthers W W' := ⟨h.size, fun k _ hk _ => (h.block k (Array.getElem?_eq_some_iff.1 hk).1).trans hk⟩
theorem holds_own {β : Type} (B : Nat) (t : TypeId) (cs : Array Value) : Own (fun (_ : β) W => Holds W B cs t) := fun s X Y row hs hg hrow =>
  hs.kept hg (fun e' => by obtain ⟨o, ho, hc⟩ := hrow B e'.symm; rw [show X.heap[B]? = _ from hs] at ho; cases ho; cases hc)
theorem wayRow_own {β : Type} (n₀ B : Nat) (t e : TypeId) (a d : Value) (k : β → Nat) (f : β → List Value) : Own (fun s W => ∃ v, Holds W B #[a, v, d] t ∧ W.ownsRow n₀ e 1 v (k s) (f s)) := by
  rintro s X Y row ⟨v, hv, hr⟩ hg hrow
  refine ⟨v, hv.kept hg (fun e' => ?_), hr.kept hg ?_⟩
  · obtain ⟨o, ho, hc⟩ := hrow B e'.symm
    rw [show X.heap[B]? = _ from hv] at ho; cases ho; cases hc
  · rcases hr.2 with ⟨rfl, _⟩ | ⟨g, cap, cur, rfl, _, hgb, _⟩
    · exact .inl rfl
    · refine .inr fun e' => ?_
      obtain ⟨o, ho, hc⟩ := hrow g (by simpa [Value.ownBlock] using e'.symm)
      rw [hgb] at ho; cases ho; cases hc
theorem grownBy_setOff (W : World) (b i : Nat) (v : Value) : W.grownBy (W.setCell ⟨b, i, none⟩ v) (some b) :=
  ⟨rfl, rfl, rfl, (KeepsWalks.setCell W _ v).size, fun k _ hk => Below.heap_setCell _ _ _ k (fun e => hk (by rw [e]))⟩
/-- 'w.Parts = append(w.Parts, part)', w a struct of three in a block of its own. -/
theorem way_appended {W w1 : World} {n₀ B : Nat} {t e : TypeId} {a d v v' : Value} {k m : Nat} {xs ys : List Value} {tmp : Obj}
    (hv : Holds W B #[a, v, d] t) (hte : t ≠ e) (hrow : W.ownsRow n₀ e 1 v k xs) (hn₀ : n₀ ≤ W.heap.size) (hB : n₀ ≤ B)
    (hown' : w1.ownsRow n₀ e 1 v' m ys) (hgrow : (W.alloc tmp).grownBy w1 v.ownBlock) :
    Holds w1 B #[a, v, d] t ∧ Holds (w1.setCell ⟨B, 1, none⟩ v') B #[a, v', d] t ∧ (w1.setCell ⟨B, 1, none⟩ v').ownsRow n₀ e 1 v' m ys ∧ KeepsOthers W (w1.setCell ⟨B, 1, none⟩ v') ∧ Below n₀ W (w1.setCell ⟨B, 1, none⟩ v') ∧ W.heap.size ≤ w1.heap.size ∧ (∀ (b : Nat) (cs : Array Value) (u : TypeId), Holds W b cs u → u ≠ e → b ≠ B → Holds (w1.setCell ⟨B, 1, none⟩ v') b cs u) := by
  have hv1 : Holds w1 B #[a, v, d] t := (hv.alloc tmp).kept hgrow (hv.not_row hte hrow)
  have hsz : W.heap.size ≤ w1.heap.size := Nat.le_trans (by simp) hgrow.size
  refine ⟨hv1, hv1.set 1 v', hown'.kept (grownBy_setOff w1 B 1 v') (.inr (hv1.not_row hte hown').symm), ?_, ?_, hsz, fun b cs u hb hu hne => (((hb.alloc tmp).kept hgrow (hb.not_row hu hrow)).far (a := ⟨B, 1, none⟩) hne v')⟩
  · refine ((KeepsOthers.alloc W tmp).trans (KeepsOthers.of_grownBy hgrow fun j o ej hj => ?_)).trans (KeepsOthers.setCell _ _ _)
    rcases (hrow.alloc tmp).2 with ⟨rfl, _⟩ | ⟨g, cap, cur, rfl, _, hgb, _⟩
    · simp [Value.ownBlock] at ej
    · obtain rfl : g = j := by simpa [Value.ownBlock] using ej
      rw [hgb] at hj; cases hj; rfl
  · refine (((Below.refl n₀ W).alloc hn₀ tmp).grown hgrow (by simp; omega) fun j ej => ?_).setCell (p := ⟨B, 1, none⟩) hB v'
    rcases hrow.2 with ⟨rfl, _⟩ | ⟨g, cap, cur, rfl, hb, _, _⟩
    · simp [Value.ownBlock] at ej
    · obtain rfl : g = j := by simpa [Value.ownBlock] using ej
      exact hb
set_option maxRecDepth 100000 in
set_option maxHeartbeats 8000000 in
theorem parse_main (s : List UInt8) (w : World) (h0 : s ≠ []) (h : s.length ≤ 256) : Calls Tryz.prog 19 #[.string (bsL s)] w (ParS s w) := by
  have hl := bsL_list s
  have f0 : s.isEmpty = false := by simpa using h0
  have hz := bsL_size s
  have i1 : ¬ ((256 : Int) < ((bsL s).size : Int)) := by omega
  have HA := Lib.hid (show Lib.hasPrefix s [47] = absP s by unfold absP; cases s with | nil => rfl | cons c r => simp [Lib.hasPrefix, List.isPrefixOf]; rw [Bool.eq_iff_iff]; simp; exact eq_comm)
  have HD := Lib.hid (dir_eq h0)
  refine (callsIn_wide (n := 5)).1 ?_
  refine callsIn_of_wp_marks Tryz.func19 rfl trivial ?_ rfl
  simp only [Tryz.ntmps19, List.size_toArray, List.length_cons, List.length_nil, Nat.reduceAdd, Nat.reduceSub, Array.replicate_succ, Array.replicate_zero, List.push_toArray, List.append_toArray, List.nil_append, List.cons_append]
  gi_upto_region 5 with fail
  gi_cut [4] from 13 (fun p wx => p = .pointer (some ⟨w.heap.size + 2, 0, none⟩) ∧ wx = ((w.alloc (.cells #[.bool false, .slice none 0 0, .bool false] 52)).alloc (.cells #[.int .i64 0] 34)).alloc (.cells #[.bool (absP s), .slice none 0 0, .bool (dirP s)] 52))
  case first =>
    by_cases q0 : s = [46]
    · have f1 : (s == [46]) = true := by simpa using q0
      have HD2 := Lib.hid (show dirP s = true by rw [← HD.out, decide_eq_true q0]; rfl)
      clear q0
      gi_wp2_with (refine ⟨trivial, ?_⟩; gi_at_call 77; refine (callsIn_wide.2 (pre_at s [47] _)).mono ?_; rintro e w' ⟨rfl, hw⟩; rw [hw, HA.out])
      refine ⟨trivial, ?_⟩
      gi_wp2
      refine ⟨trivial, ?_⟩
      gi_wp2
      gi_meet
      case rel => exact ⟨rfl, by rw [HD2.out]⟩
    · have f1 : (s == [46]) = false := by simpa using q0
      cases q1 : Lib.hasSuffix s [47] with
      | true =>
        have HD2 := Lib.hid (show dirP s = true by rw [← HD.out, q1]; simp)
        gi_wp2_with (refine ⟨trivial, ?_⟩; first
      | (gi_at_call 77; refine (callsIn_wide.2 (pre_at s [47] _)).mono ?_; rintro e w' ⟨rfl, hw⟩; rw [hw, HA.out])
      | (gi_at_call 78; refine (callsIn_wide.2 (suf_at s [47] _ (by omega))).mono ?_; rintro e w' ⟨rfl, hw⟩; rw [hw, q1]))
        refine ⟨trivial, ?_⟩
        gi_wp2
        gi_meet
        case rel => exact ⟨rfl, by rw [HD2.out]⟩
      | false =>
        cases q2 : Lib.hasSuffix s [47, 46]
        all_goals
          have HD2 := Lib.hid (show dirP s = _ by rw [← HD.out, q1, q2, decide_eq_false q0])
          gi_wp2_with (refine ⟨trivial, ?_⟩; first
      | (gi_at_call 77; refine (callsIn_wide.2 (pre_at s [47] _)).mono ?_; rintro e w' ⟨rfl, hw⟩; rw [hw, HA.out])
      | (gi_at_call 78; refine (callsIn_wide.2 (suf_at s [47] _ (by omega))).mono ?_; rintro e w' ⟨rfl, hw⟩; rw [hw, q1])
      | (gi_at_call 78; refine (callsIn_wide.2 (suf_at s [47, 46] _ (by omega))).mono ?_; rintro e w' ⟨rfl, hw⟩; rw [hw, q2]))
          gi_meet
          case rel => exact ⟨rfl, by rw [HD2.out]; rfl⟩
  case rest =>
    obtain ⟨rfl, rfl⟩ := hcut
    obtain ⟨W0, hW0⟩ : ∃ W0, W0 = ((w.alloc (.cells #[.bool false, .slice none 0 0, .bool false] 52)).alloc (.cells #[.int .i64 0] 34)).alloc (.cells #[.bool (absP s), .slice none 0 0, .bool (dirP s)] 52) := ⟨_, rfl⟩
    have hB0 : Below w.heap.size w W0 := by rw [hW0]; exact (((Below.refl _ w).alloc (Nat.le_refl _) _).alloc (by simp) _).alloc (by simp; omega) _
    have hs0 : W0.heap.size = w.heap.size + 3 := by rw [hW0]; simp
    have HR : Holds W0 w.heap.size #[.bool false, .slice none 0 0, .bool false] 52 := by rw [hW0]; exact ((Holds.new w _ _).alloc _).alloc _
    have HE : Holds W0 (w.heap.size + 1) #[.int .i64 0] 34 := by
      rw [hW0]
      have := (Holds.new (w.alloc (.cells #[.bool false, .slice none 0 0, .bool false] 52)) #[.int .i64 0] 34).alloc (.cells #[.bool (absP s), .slice none 0 0, .bool (dirP s)] 52)
      rwa [World.size_alloc] at this
    have HV : Holds W0 (w.heap.size + 2) #[.bool (absP s), .slice none 0 0, .bool (dirP s)] 52 := by
      rw [hW0]
      have := Holds.new ((w.alloc (.cells #[.bool false, .slice none 0 0, .bool false] 52)).alloc (.cells #[.int .i64 0] 34)) #[.bool (absP s), .slice none 0 0, .bool (dirP s)] 52
      rwa [World.size_alloc, World.size_alloc] at this
    rw [← hW0]
    clear hW0 HA HD i1 f0 hl
    obtain ⟨i0, hi, hz0, hz1, hz2⟩ := info_parts infoStr
    have hN : (partsP s).length ≤ 257 := by have := parts_len s; omega
    gi_wp2_with (refine ⟨trivial, ?_⟩; gi_at_call 79; refine (parts_in _ s _).mono ?_; rintro e w' ⟨rfl, rfl⟩)
    have bN := Boxed.new W0 9 (.string (bsL s))
    rw [hs0] at bN
    refine wpIn_rangeFunc_ownG rfl (by omega) (gf := 137) (lb := #[.pointer (some ⟨w.heap.size + 3, 0, none⟩)]) rfl trivial (enters_of Tryz.func137 (by kernel_rfl) rfl)
      (parts_stops _ (by omega) (w.heap.size + 3) w.heap.size s (by omega) (W0.alloc (.cells #[.string (bsL s)] 9)) (by simp; omega) bN.cell) belowK_t (belowK_b (by simp; omega)) (Below.refl _ _) (fun _ => rfl)
      (fun (pre : List (List UInt8)) W => (((∃ v, Holds W (w.heap.size + 2) #[.bool (absP s), v, .bool (dirP s)] 52 ∧ W.ownsRow w.heap.size 9 1 v pre.length (pre.map sv)) ∧ Holds W w.heap.size #[.bool false, .slice none 0 0, .bool false] 52) ∧ Holds W (w.heap.size + 1) #[.int .i64 0] 34) ∧ (pre.all okP = true ∧ Below w.heap.size w W))
      (fun c (pre : List (List UInt8)) W => (Holds W w.heap.size #[.bool false, .slice none 0 0, .bool false] 52 ∧ Holds W (w.heap.size + 1) #[.int .i64 18] 34) ∧ ((c = .ret ∧ pre.all okP = false) ∧ Below w.heap.size w W))
      (OwnFrom.and (OwnFrom.and (OwnFrom.and (Own.from (wayRow_own _ _ _ _ _ _ _ _) _) (Own.from (holds_own _ _ _) _)) (Own.from (holds_own _ _ _) _)) (OwnFrom.and (ownFrom_pure _ (fun (pre : List (List UInt8)) => pre.all okP = true)) (ownFrom_below (Nat.le_refl _) (by simp; omega))))
      (fun c => OwnFrom.and (OwnFrom.and (Own.from (holds_own _ _ _) _) (Own.from (holds_own _ _ _) _)) (OwnFrom.and (ownFrom_pure _ (fun (pre : List (List UInt8)) => c = .ret ∧ pre.all okP = false)) (ownFrom_below (Nat.le_refl _) (by simp; omega))))
      ⟨⟨⟨⟨_, HV.alloc _, World.ownsRow_nil _ _ _ _⟩, HR.alloc _⟩, HE.alloc _⟩, rfl, hB0.alloc (by omega) _⟩
      (fun x => { tmps := #[.string (bsL s), undef, .pointer (some ⟨w.heap.size, 0, none⟩), .pointer (some ⟨w.heap.size + 1, 0, none⟩), .pointer (some ⟨w.heap.size + 2, 0, none⟩), .string (bsL x), .string (bsL s), .bool false, undef, .string (bsL s), .int .i64 s.length, .bool (decide (256 < (s.length : Int))), undef, u13, u14, u15, u16, u17, u18, u19, u20, u21, u22, u23, u24, u25, .string (bsL s), .func (.func 137) #[] #[.pointer (some ⟨w.heap.size + 3, 0, none⟩)], .string (bsL x), u29, u30, u31, u32, u33, u34, u35, u36, u37, u38, u39, u40, u41, u42, u43], defers := [] }) ?assign ?body ?done ?stop
    case assign =>
      intro l x W K hK
      gi_wp2
      exact hK
    case body =>
      rintro l pre x W ⟨⟨⟨⟨v, hv, hrow⟩, hr⟩, he⟩, hok, hB⟩ hlt
      have hl := bsL_list x
      have hBs := hB.size
      have hv0 := hv.cell 1
      have hml : maxLen = 9223372036854775807 := rfl
      by_cases hx : x = [46, 46]
      · have f1 : (x == [46, 46]) = true := by simpa using hx
        have HO := Lib.hid (show (pre ++ [x]).all okP = true by rw [List.all_append, hok]; simp [okP, hx])
        clear hx
        gi_wp2
        refine ⟨trivial, ?_⟩
        gi_wp2_with (gi_at_builtin; refine wpListIn_append_own _ rfl _ _ 50 rfl w.heap.size 9 i0 (.string ⟨#[]⟩) 1 16 Tryz.underlying50 hi hz0 hz1 hz2 rfl (by decide) _ _ _ rfl (hrow.alloc _) ⟨W.heap.size, 0, none⟩ 1 1 [.string (bsL x)] rfl rfl (cell_one_new _ _ _) (by simp [Value.oneCell']) (by omega) (by omega) (by have := hB.size; simp; omega) ?_; intro v' w1 hown' hgrow _; obtain ⟨g', cap', rfl⟩ := ownsRow_succ hown'; obtain ⟨hv1, hv2, hr2, hk2, hb2, hsz, hoth⟩ := way_appended hv (by decide) hrow hB.size (by omega) hown' hgrow; have hc1 := hv1.cell 1; have hf1 := hv1.frozen 1)
        refine ⟨hk2.from _, hb2, ⟨⟨⟨_, hv2, ?_⟩, hoth _ _ _ hr (by decide) (by omega)⟩, hoth _ _ _ he (by decide) (by omega)⟩, HO.out, hB.trans hb2⟩
        rw [List.length_append, List.map_append]; exact hr2
      · have f1 : (x == [46, 46]) = false := by simpa using hx
        have HI := Lib.hid (fun W => dname_at x W)
        by_cases hn : nameP x = true
        · have HO := Lib.hid (show (pre ++ [x]).all okP = true by rw [List.all_append, hok]; simp [okP, hn])
          have HE0 := Lib.hid (show nmE x = 0 by unfold nmE; rw [hn]; rfl)
          clear hn hx
          gi_wp2_with (first
            | (refine ⟨trivial, ?_⟩; gi_at_call 80; refine (CallsIn.inRound l (callsIn_wide.2 (HI.out _))).mono ?_; rintro e W1 ⟨rfl, hb⟩; rw [HE0.out]; have hv := hv.below hb; have hrow := own_keep hrow hb; have hr := hr.below hb; have he := he.below hb; have hv0 := hv.cell 1; have hB := hB.trans (hb.mono hB.size))
            | (gi_at_builtin; refine wpListIn_append_own _ rfl _ _ 50 rfl w.heap.size 9 i0 (.string ⟨#[]⟩) 1 16 Tryz.underlying50 hi hz0 hz1 hz2 rfl (by decide) _ _ _ rfl (hrow.alloc _) ⟨W1.heap.size, 0, none⟩ 1 1 [.string (bsL x)] rfl rfl (cell_one_new _ _ _) (by simp [Value.oneCell']) (by omega) (by omega) (by have := hB.size; simp; omega) ?_; intro v' w1 hown' hgrow _; obtain ⟨g', cap', rfl⟩ := ownsRow_succ hown'; obtain ⟨hv1, hv2, hr2, hk2, hb2, hsz, hoth⟩ := way_appended hv (by decide) hrow hB.size (by omega) hown' hgrow; have hc1 := hv1.cell 1; have hf1 := hv1.frozen 1))
          refine ⟨(KeepsOthers.below hb).from _ |>.trans (hk2.from _), (hb.mono (by assumption)).trans hb2, ⟨⟨⟨_, hv2, ?_⟩, hoth _ _ _ hr (by decide) (by omega)⟩, hoth _ _ _ he (by decide) (by omega)⟩, HO.out, hB.trans hb2⟩
          rw [List.length_append, List.map_append]; exact hr2
        · have HO := Lib.hid (show (pre ++ [x]).all okP = false by rw [List.all_append, hok]; simp [okP, hn, hx])
          have HE0 := Lib.hid (show nmE x = 18 by unfold nmE; rw [if_neg hn])
          clear hn hx
          gi_wp2_with (refine ⟨trivial, ?_⟩; gi_at_call 80; refine (CallsIn.inRound l (callsIn_wide.2 (HI.out _))).mono ?_; rintro e W1 ⟨rfl, hb⟩; rw [HE0.out]; have hr := hr.below hb; have he := he.below hb; have r0 := hr.cell 0; have r1 := hr.cell 1; have r2 := hr.cell 2; have r3 := he.cell 0; have g0 := hr.frozen 0; have g1 := hr.frozen 1; have g2 := hr.frozen 2; have g3 := he.frozen 0)
          refine ⟨((((((KeepsOthers.below hb).trans (KeepsOthers.setCell _ _ _)).trans (KeepsOthers.setCell _ _ _)).trans (KeepsOthers.setCell _ _ _)).trans (KeepsOthers.setCell _ _ _))).from _, ⟨?_, ?_⟩, ⟨rfl, HO.out⟩, ?_⟩
          · exact (((hr.set 0 _).set 1 _).set 2 _).far (a := ⟨w.heap.size + 1, 0, none⟩) (by simp) _
          · exact (((he.far (a := ⟨w.heap.size, 0, none⟩) (by simp) _).far (a := ⟨w.heap.size, 1, none⟩) (by simp) _).far (a := ⟨w.heap.size, 2, none⟩) (by simp) _).set 0 _
          · exact ((((hB.trans (hb.mono hB.size)).setCell (p := ⟨w.heap.size, 0, none⟩) (Nat.le_refl _) _).setCell (p := ⟨w.heap.size, 1, none⟩) (Nat.le_refl _) _).setCell (p := ⟨w.heap.size, 2, none⟩) (Nat.le_refl _) _).setCell (p := ⟨w.heap.size + 1, 0, none⟩) (by simp) _
    case done =>
      rintro D ys W hD rfl ⟨⟨⟨⟨v, hv, hrow⟩, hr⟩, he⟩, hok, hB⟩ hK
      obtain ⟨ao, cap, rfl, -⟩ := own_slS hrow
      have v0 := hv.cell 0; have v1 := hv.cell 1; have v2 := hv.cell 2
      have r0 := hr.cell 0; have r1 := hr.cell 1; have r2 := hr.cell 2; have r3 := he.cell 0; have g0 := hr.frozen 0; have g1 := hr.frozen 1; have g2 := hr.frozen 2; have g3 := he.frozen 0
      gi_wp2
      have a0 := hr.set 0 (.bool (absP s))
      have o0 := hrow.kept (grownBy_setOff W w.heap.size 0 (.bool (absP s))) (.inr (hr.not_row (by decide) hrow).symm)
      have a1 := a0.set 1 (.slice ao (partsP s).length cap)
      have o1 := o0.kept (grownBy_setOff _ w.heap.size 1 (.slice ao (partsP s).length cap)) (.inr (a0.not_row (by decide) o0).symm)
      have a2 := a1.set 2 (.bool (dirP s))
      have o2 := o1.kept (grownBy_setOff _ w.heap.size 2 (.bool (dirP s))) (.inr (a1.not_row (by decide) o1).symm)
      have e2 := ((he.far (a := ⟨w.heap.size, 0, none⟩) (by simp) (.bool (absP s))).far (a := ⟨w.heap.size, 1, none⟩) (by simp) (.slice ao (partsP s).length cap)).far (a := ⟨w.heap.size, 2, none⟩) (by simp) (.bool (dirP s))
      have a3 := a2.far (a := ⟨w.heap.size + 1, 0, none⟩) (by simp) (.int .i64 0)
      have e3 := e2.set 0 (.int .i64 0)
      have o3 := o2.kept (grownBy_setOff _ (w.heap.size + 1) 0 (.int .i64 0)) (.inr (e2.not_row (by decide) o2).symm)
      have hK3 := ((((KeepsOthers.setCell W ⟨w.heap.size, 0, none⟩ (.bool (absP s))).trans (KeepsOthers.setCell _ ⟨w.heap.size, 1, none⟩ (.slice ao (partsP s).length cap))).trans (KeepsOthers.setCell _ ⟨w.heap.size, 2, none⟩ (.bool (dirP s)))).trans (KeepsOthers.setCell _ ⟨w.heap.size + 1, 0, none⟩ (.int .i64 0))).same D _ hK rfl
      have hB3 := (((hB.setCell (p := ⟨w.heap.size, 0, none⟩) (Nat.le_refl _) (.bool (absP s))).setCell (p := ⟨w.heap.size, 1, none⟩) (Nat.le_refl _) (.slice ao (partsP s).length cap)).setCell (p := ⟨w.heap.size, 2, none⟩) (Nat.le_refl _) (.bool (dirP s))).setCell (p := ⟨w.heap.size + 1, 0, none⟩) (by simp) (.int .i64 0)
      obtain ⟨W3, hW3⟩ : ∃ W3, W3 = (((W.setCell ⟨w.heap.size, 0, none⟩ (.bool (absP s))).setCell ⟨w.heap.size, 1, none⟩ (.slice ao (partsP s).length cap)).setCell ⟨w.heap.size, 2, none⟩ (.bool (dirP s))).setCell ⟨w.heap.size + 1, 0, none⟩ (.int .i64 0) := ⟨_, rfl⟩
      rw [← hW3] at a3 e3 o3 hK3 hB3 ⊢
      clear hW3 a0 a1 a2 o0 o1 o2 e2
      have hD4 : w.heap.size + 4 ≤ D := by rw [World.size_alloc] at hD; omega
      have HG := grownBy_putObj' W3 D (.deferred none)
      have hr' : Holds _ w.heap.size #[.bool (absP s), .slice ao (partsP s).length cap, .bool (dirP s)] 52 := a3.kept HG (by simp; omega)
      have he' : Holds _ (w.heap.size + 1) #[.int .i64 0] 34 := e3.kept HG (by simp; omega)
      have hBD := hB3.trans (belowK_b (w := w) (Nat.le_refl _) W3 D _ (.deferred none) (by omega) hK3 rfl rfl)
      have r0 := hr'.cell 0; have r1 := hr'.cell 1; have r2 := hr'.cell 2; have r3 := he'.cell 0
      have hER : errP s = 0 := by
        unfold errP
        rw [if_neg h0, if_neg (by omega), hok]; rfl
      refine ⟨by simp, .inl ⟨_, _, rfl, run_takeDeferred hK3, ?_⟩⟩
      refine ⟨.tuple #[.agg #[.bool (absP s), .slice ao (partsP s).length cap, .bool (dirP s)], .int .i64 0], ?_, ⟨.ofBelow hBD, .inr ⟨hER, _, rfl, ownsRow_putObj o3 _ hK3 rfl⟩⟩⟩
      simp [results, Tryz.f19, go_sem, r0, r1, r2, r3]
    case stop =>
      rintro D c pre W hD hpre ⟨⟨hr, he⟩, ⟨rfl, hok⟩, hB⟩ hK
      gi_wp2
      have hD4 : w.heap.size + 4 ≤ D := by rw [World.size_alloc] at hD; omega
      have HG := grownBy_putObj' W D (.deferred none)
      have hr' := hr.kept HG (by simp; omega)
      have he' := he.kept HG (by simp; omega)
      have hBD := hB.trans (belowK_b (w := w) (Nat.le_refl _) W D _ (.deferred none) (by omega) hK rfl rfl)
      have r0 := hr'.cell 0; have r1 := hr'.cell 1; have r2 := hr'.cell 2; have r3 := he'.cell 0
      have hER : errP s = 18 := by
        unfold errP
        rw [if_neg h0, if_neg (by omega)]
        have : (partsP s).all okP = false := by
          obtain ⟨t, ht⟩ := hpre
          rw [← ht, List.all_append, hok]; rfl
        rw [this]; rfl
      refine ⟨by simp, .inl ⟨_, _, rfl, run_takeDeferred hK, ?_⟩⟩
      refine ⟨.tuple #[.agg #[.bool false, .slice none 0 0, .bool false], .int .i64 18], ?_, ⟨.ofBelow hBD, .inl ⟨by rw [hER]; decide, by rw [hER]⟩⟩⟩
      simp [results, Tryz.f19, go_sem, r0, r1, r2, r3]
/-- The program's Parse. -/
theorem parse_at (s : List UInt8) (w : World) : Calls Tryz.prog 19 #[.string (bsL s)] w (ParS s w) := by
  by_cases h0 : s = []
  · subst h0; exact parse_nil w
  · by_cases h1 : s.length ≤ 256
    · exact parse_main s w h0 h1
    · exact parse_long s w (by omega)

end Go.Proofs.YtgleopahldpajaaGreat

/-
  Layer 18: Parse in one word; the law's example; PathParses.
-/
namespace Go.Proofs.YtgleopahldpajaaGreat
open Go.RowKit Go.Shelf

/-- The way of a path: nothing where it is none. -/
def wayL (s : List UInt8) : List (List UInt8) := if errP s = 0 then partsP s else []
def wayA (s : List UInt8) : Bool := decide (errP s = 0) && absP s
def wayD (s : List UInt8) : Bool := decide (errP s = 0) && dirP s
/-- The same, and the parts lie in memory of their own. -/
def ParF (s : List UInt8) (w : World) (e : Ending) (w' : World) : Prop :=
  ∃ ao cap, e = .returned (.tuple #[.agg #[.bool (wayA s), .slice ao (wayL s).length cap, .bool (wayD s)], .int .i64 (errP s)]) ∧ SlS w' (.slice ao (wayL s).length cap) (wayL s) ∧ Gr [] w w' ∧ ∀ k o, ao = some ⟨k, o, none⟩ → w.heap.size ≤ k
theorem parF {s : List UInt8} {w : World} {e : Ending} {w' : World} (h : ParS s w e w') : ParF s w e w' := by
  obtain ⟨g, ⟨h0, rfl⟩ | ⟨h0, v, rfl, ho⟩⟩ := h
  · have hA : wayA s = false := by simp [wayA, h0]
    have hD : wayD s = false := by simp [wayD, h0]
    have hL : wayL s = [] := by simp [wayL, h0]
    unfold ParF
    rw [hA, hD, hL]
    exact ⟨none, 0, rfl, SlS.nil _, g, fun k o e => by cases e⟩
  · have hA : wayA s = absP s := by simp [wayA, h0]
    have hD : wayD s = dirP s := by simp [wayD, h0]
    have hL : wayL s = partsP s := by simp [wayL, h0]
    obtain ⟨ao, cap, rfl, hr⟩ := own_slS ho
    unfold ParF
    rw [hA, hD, hL, h0]
    refine ⟨ao, cap, rfl, ⟨ao, cap, rfl, hr⟩, g, fun k o e => ?_⟩
    rcases ho.2 with ⟨q, _⟩ | ⟨b, c, cur, q, hb, _⟩
    · injection q with q1; rw [q1] at e; cases e
    · injection q with q1; rw [q1] at e; cases e; exact hb
theorem parse_f (s : List UInt8) (w : World) : Calls Tryz.prog 19 #[.string (bsL s)] w (ParF s w) := (parse_at s w).mono fun _ _ h => parF h
end Go.Proofs.YtgleopahldpajaaGreat

/-
  Layer 19 (tree): a way over a tree that has no Links.
-/
namespace Go.Proofs.YtgleopahldpajaaGreat
open Go.RowKit
set_option linter.unusedVariables false
/-- The directory above. -/
def upZ (T : Int → Option NdZ) (n : Int) : Int × Int := if openE T n = 0 then ((match T n with | some x => x.up | none => 0), 0) else (0, openE T n)
/-- What a part leads to. -/
def lookZ (T : Int → Option NdZ) (nm : List NmZ) (n : Int) (p : List UInt8) : Int × Int := if p = [46, 46] then upZ T n else (((findZ T nm n (bsL p)).1 : Int), (findZ T nm n (bsL p)).2)
theorem lookZ_is {T : Int → Option NdZ} {nm : List NmZ} (h : TrO T nm) (n : Int) (p : List UInt8) : ((lookZ T nm n p).2 ≠ 0 ∧ (lookZ T nm n p).1 = 0) ∨ ((lookZ T nm n p).2 = 0 ∧ (T (lookZ T nm n p).1).isSome = true) := by
  unfold lookZ
  by_cases c : p = [46, 46]
  · rw [if_pos c]
    unfold upZ
    by_cases o : openE T n = 0
    · rw [if_pos o]
      obtain ⟨x, hx, hk, hl⟩ := openE_ok o
      refine .inr ⟨rfl, ?_⟩
      rw [hx]
      by_cases n1 : n = 1
      · obtain ⟨r, h1, _, _, h2⟩ := h.root
        rw [n1, h1] at hx; injection hx with hx
        show (T x.up).isSome = true
        rw [← hx, h2, h1]; rfl
      · have hone := h.one n x hx hk hl n1
        have : 0 < hasNm nm n := by omega
        obtain ⟨z, hz, hz2⟩ := List.countP_pos_iff.1 this
        have hz2 : (z.2.2 : Int) = n := of_decide_eq_true hz2
        obtain ⟨_, _, ⟨z0, hz0, _⟩, z1, hz1, hz3⟩ := h.nms z hz
        rw [hz2, hx] at hz1
        injection hz1 with hz1
        rw [← hz1] at hz3
        show (T x.up).isSome = true
        rw [(hz3 hk).1, hz0]; rfl
    · rw [if_neg o]; exact .inl ⟨o, rfl⟩
  · rw [if_neg c]
    unfold findZ
    by_cases d : dirE T n = 0
    · rw [if_pos d]
      cases q : lkN nm n (bsL p) with
      | none => exact .inl ⟨by decide, rfl⟩
      | some v =>
        obtain ⟨_, _, _, y, hy, _⟩ := h.nms _ (lkN_some q)
        have hy : T (v : Int) = some y := hy
        exact .inr ⟨rfl, by show (T (v : Int)).isSome = true; rw [hy]; rfl⟩
    · rw [if_neg d]; exact .inl ⟨d, rfl⟩
section
variable {w w' w2 : World} {A : TrA} {Z : TrZ} {K : Nat} {g : Int → NdV} {n : Int} {x : NdZ} {v : NdV}
theorem up_is (h : TrG w A Z K g) (n : Int) : (pickV g (openE Z.T n) n).up = (upZ Z.T n).1 ∧ openE Z.T n = (upZ Z.T n).2 := by
  unfold upZ
  by_cases c : openE Z.T n = 0
  · rw [if_pos c, c, pickV_ok rfl]
    obtain ⟨x, hx, hk, _⟩ := openE_ok c
    exact ⟨by rw [hx]; exact (h.nd n x hx).up hk, rfl⟩
  · rw [if_neg c, pickV_no c]; exact ⟨rfl, rfl⟩
set_option maxRecDepth 20000 in
set_option maxHeartbeats 1000000 in
theorem look_any (h : TrG w A Z K g) (n : Int) (hn : WfZ n) (p : List UInt8) (hp : p.length ≤ 1000) (kb : Nat) (cs : Array Value) (hk : w.cell? ⟨kb, 0, none⟩ = some (.pointer (some ⟨A.tb, 0, none⟩))) :
    Calls Tryz.prog 140 #[.pointer (some ⟨kb, 0, none⟩), .int .i64 n, .string (bsL p)] w fun e w' => e = .returned (.tuple #[.int .i64 (lookZ Z.T Z.nm n p).1, .int .i64 (lookZ Z.T Z.nm n p).2]) ∧ Gr [] w w' := by
  have hsz : (bsL p).size ≤ maxLen := by have : (bsL p).size = p.length := rfl; unfold maxLen; omega
  by_cases c : p = [46, 46]
  · have hu := up_any h n hn
    obtain ⟨u1, u2⟩ := up_is h n
    rw [u1, u2] at hu
    have hl : lookZ Z.T Z.nm n p = upZ Z.T n := by unfold lookZ; rw [if_pos c]
    rw [hl]
    obtain ⟨r, hr⟩ : ∃ r, r = upZ Z.T n := ⟨_, rfl⟩
    rw [← hr] at hu ⊢
    have HU := Lib.hid hu
    subst c
    have e1 : (bsL [46, 46]) = ⟨#[46, 46]⟩ := rfl
    rw [e1]
    clear hu u1 u2 hl hr h hn hsz
    go_enter Tryz.func140, Tryz.ntmps140
    go_wp2_with fail
    with_reducible refine HU.out.mono ?_
    rintro e w1 ⟨rfl, g1⟩
    go_wp2_with fail
    go_ret2
    exact ⟨rfl, g1⟩
  · have hl : lookZ Z.T Z.nm n p = (((findZ Z.T Z.nm n (bsL p)).1 : Int), (findZ Z.T Z.nm n (bsL p)).2) := by unfold lookZ; rw [if_neg c]
    rw [hl]
    have HF := Lib.hid (find_any h n hn (bsL p) hsz)
    have e2 : ((bsL p).toList == [46, 46]) = false := by
      rw [bsL_list]; simp [c]
    obtain ⟨r, hr⟩ : ∃ r, r = findZ Z.T Z.nm n (bsL p) := ⟨_, rfl⟩
    rw [← hr] at HF ⊢
    clear hl hr h hn hsz c
    generalize bsL p = P at *
    go_enter Tryz.func140, Tryz.ntmps140
    go_wp2_with fail
    with_reducible refine HF.out.mono ?_
    rintro e w1 ⟨rfl, g1⟩
    go_wp2_with fail
    go_ret2
    exact ⟨rfl, g1⟩
end
end Go.Proofs.YtgleopahldpajaaGreat
