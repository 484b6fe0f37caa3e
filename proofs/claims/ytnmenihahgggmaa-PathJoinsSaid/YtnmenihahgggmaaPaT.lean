/-
  Layer 18: the document's Parse.
-/
import Derived.Test.YtnmenihahgggmaaPaR
namespace Go.Proofs.Ytnmenihahgggmaa
open Go.RowKit Go.Shelf

theorem rparse_ret (w W : World) (s : List UInt8) (n : Int) (hn : n = errP s) (h0 : n ≠ 0) (a : Act) (hd : a.defers = []) (h2 : a.tmps[2]?.getD undef = .pointer (some ⟨w.heap.size, 0, none⟩)) (h3 : a.tmps[3]?.getD undef = .int .i64 n)
    (hr : Holds W w.heap.size #[.bool false, .slice none 0 0, .bool false] 28) (hB : Below w.heap.size w W) :
    bodyPost Try.prog Try.f8 (ParS s w) Exit.ret a W := by
  have r0 := hr.cell 0
  have r1 := hr.cell 1
  have r2 := hr.cell 2
  refine bodyPost_ret (v := .tuple #[.agg #[.bool false, .slice none 0 0, .bool false], .int .i64 n]) ?_ hd ⟨.ofBelow hB, .inl ⟨by rw [← hn]; exact h0, by rw [hn]⟩⟩
  simp [results, Try.results8, go_sem, *]
theorem rparse_end (w W : World) (s : List UInt8) (hn : errP s = 0) (a : Act) (ao : Option Addr) (n cap : Nat) (hd : a.defers = []) (h2 : a.tmps[2]?.getD undef = .pointer (some ⟨w.heap.size, 0, none⟩)) (h3 : a.tmps[3]?.getD undef = .int .i64 0)
    (hr : Holds W w.heap.size #[.bool (absP s), .slice ao n cap, .bool (dirP s)] 28) (ho : W.ownsRow w.heap.size 9 1 (.slice ao n cap) (partsP s).length ((partsP s).map sv)) (hB : Below w.heap.size w W) :
    bodyPost Try.prog Try.f8 (ParS s w) Exit.ret a W := by
  have r0 := hr.cell 0
  have r1 := hr.cell 1
  have r2 := hr.cell 2
  refine bodyPost_ret (v := .tuple #[.agg #[.bool (absP s), .slice ao n cap, .bool (dirP s)], .int .i64 0]) ?_ hd ⟨.ofBelow hB, .inr ⟨hn, _, rfl, ho⟩⟩
  simp [results, Try.results8, go_sem, *]
set_option maxRecDepth 100000 in
set_option maxHeartbeats 4000000 in
theorem rparse_nil (w : World) : Calls Try.prog 8 #[.string (bsL [])] w (ParS [] w) := by
  have hz : (bsL []).size = 0 := rfl
  go_enter Try.func8, Try.ntmps8
  go_wp2
  exact rparse_ret w _ [] 13 rfl (by decide) _ rfl rfl rfl ((Holds.new w _ _).alloc _) (((Below.refl _ w).alloc (Nat.le_refl _) _).alloc (by simp) _)
set_option maxRecDepth 100000 in
set_option maxHeartbeats 4000000 in
theorem rparse_long (s : List UInt8) (w : World) (h : 256 < s.length) : Calls Try.prog 8 #[.string (bsL s)] w (ParS s w) := by
  have h0 : s ≠ [] := fun e => by subst e; simp at h
  have hz := bsL_size s
  have i1 : (256 : Int) < ((bsL s).size : Int) := by omega
  have i0 : ((s.length : Int) == 0) = false := by rw [beq_eq_false_iff_ne]; omega
  have he : (9 : Int) = errP s := by unfold errP; rw [if_neg h0, if_pos h]
  have HE := Lib.hid he
  clear he
  go_enter Try.func8, Try.ntmps8
  go_wp2
  exact rparse_ret w _ s 9 HE.out (by decide) _ rfl rfl rfl ((Holds.new w _ _).alloc _) (((Below.refl _ w).alloc (Nat.le_refl _) _).alloc (by simp) _)

theorem bs_add (c : List UInt8) (x : UInt8) : bsL c ++ bsL [x] = bsL (c ++ [x]) := by
  apply bsL_of
  rw [ByteArray.data_append]
  simp [bsL]
theorem bs_at {s : List UInt8} {k : Nat} {x : UInt8} (h : s[k]? = some x) : (bsL s).extract k (k + 1) = bsL [x] := by
  apply bsL_of
  rw [ByteArray.data_extract, Array.toList_extract]
  show (s.drop k).take (k + 1 - k) = [x]
  obtain ⟨h1, h2⟩ := List.getElem?_eq_some_iff.1 h
  rw [show k + 1 - k = 1 by omega, List.drop_eq_getElem_cons h1, h2]
  rfl
theorem head_abs (s : List UInt8) (h : 0 < (bsL s).size) (h0 : s ≠ []) : ((((bsL s)[0]'h).toNat : Int) == 47) = absP s := by
  cases s with
  | nil => exact absurd rfl h0
  | cons c r =>
    show ((c.toNat : Int) == 47) = decide (some c = some 47)
    rw [Bool.eq_iff_iff]
    simp
    constructor
    · intro e; apply UInt8.toNat_inj.1; have : c.toNat = 47 := by omega
      rw [this]; rfl
    · intro e; rw [e]; rfl
/-- Between two rounds of the document's Parse: its three structs, and the parts so far. -/
structure RI (w wr : World) (s : List UInt8) (v : Value) (d : Bool) (L : List (List UInt8)) : Prop where
  hr : Holds wr w.heap.size #[.bool false, .slice none 0 0, .bool false] 28
  hn : Holds wr (w.heap.size + 1) #[.bool false, .slice none 0 0, .bool false] 28
  hv : Holds wr (w.heap.size + 1 + 1) #[.bool (absP s), v, .bool d] 28
  row : wr.ownsRow w.heap.size 9 1 v L.length (L.map sv)
  B : Below w.heap.size w wr
theorem RI.dir {w wr : World} {s : List UInt8} {v : Value} {d : Bool} {L : List (List UInt8)} (h : RI w wr s v d L) (d' : Bool) : RI w (wr.setCell ⟨w.heap.size + 1 + 1, 2, none⟩ (.bool d')) s v d' L :=
  ⟨h.hr.far (a := ⟨w.heap.size + 1 + 1, 2, none⟩) (by simp <;> omega) _, h.hn.far (a := ⟨w.heap.size + 1 + 1, 2, none⟩) (by simp <;> omega) _, h.hv.set 2 _, h.row.kept (grownBy_setOff wr (w.heap.size + 1 + 1) 2 _) (.inr (h.hv.not_row (by decide) h.row).symm), h.B.setCell (p := ⟨w.heap.size + 1 + 1, 2, none⟩) (by simp <;> omega) _⟩
theorem RI.app {w wr W : World} {s c : List UInt8} {v v' : Value} {d : Bool} {L : List (List UInt8)} (h : RI w wr s v d L) (hr2 : W.ownsRow w.heap.size 9 1 v' (L.length + 1) (L.map sv ++ [.string (bsL c)])) (hv2 : Holds W (w.heap.size + 1 + 1) #[.bool (absP s), v', .bool d] 28) (hb2 : Below w.heap.size wr W)
    (hoth : ∀ (b : Nat) (cs : Array Value) (u : TypeId), Holds wr b cs u → u ≠ 9 → b ≠ w.heap.size + 1 + 1 → Holds W b cs u) : RI w W s v' d (L ++ [c]) :=
  ⟨hoth _ _ _ h.hr (by decide) (by simp <;> omega), hoth _ _ _ h.hn (by decide) (by simp <;> omega), hv2, by rw [List.length_append, List.map_append]; exact hr2, h.B.trans hb2⟩
set_option maxRecDepth 100000 in
set_option maxHeartbeats 16000000 in
theorem rparse_main (s : List UInt8) (w : World) (h0 : s ≠ []) (h : s.length ≤ 256) : Calls Try.prog 8 #[.string (bsL s)] w (ParS s w) := by
  have hz := bsL_size s
  have hp : 0 < s.length := by cases s with | nil => exact absurd rfl h0 | cons _ _ => simp
  have i1 : ¬ ((256 : Int) < ((bsL s).size : Int)) := by omega
  have i0 : ((s.length : Int) == 0) = false := by rw [beq_eq_false_iff_ne]; omega
  have i2 : (0 : Int) < ((bsL s).size : Int) := by omega
  have i3 : 0 < (bsL s).size := by omega
  have ha := head_abs s i3 h0
  obtain ⟨i00, hi, hz0, hz1, hz2⟩ := info_parts infoStr
  go_enter Try.func8, Try.ntmps8
  go_wp2
  clear ha i3 i2
  go_loopw [6, 7] (fun p i wr => ∃ (k : Nat) (P : List (List UInt8)) (c : List UInt8) (v : Value) (d : Bool), k ≤ s.length + 1 ∧ p = .string (bsL c) ∧ i = .int .i64 k ∧ (pg [] s = P ++ (if k ≤ s.length then pg c (s.drop k) else []) ∧ c.length ≤ k ∧ (P.filter keepP).all okP = true ∧ (s.length < k → d = !keepP ((P.getLast?).getD []))) ∧ RI w wr s v d (P.filter keepP))
    (fun _ i _ => s.length + 1 - (intOf i).toNat)
  case atStart =>
    refine ⟨0, [], [], .slice none 0 0, false, by omega, rfl, rfl, ⟨by simp, by simp, rfl, fun q => absurd q (by omega)⟩, ⟨((Holds.new w _ _).alloc _).alloc _, ?_, ?_, World.ownsRow_nil _ _ _ _, (((Below.refl _ w).alloc (Nat.le_refl _) _).alloc (by simp) _).alloc (by simp; omega) _⟩⟩
    · have := (Holds.new (w.alloc (.cells #[.bool false, .slice none 0 0, .bool false] 28)) #[.bool false, .slice none 0 0, .bool false] 28).alloc (.cells #[.bool (absP s), .slice none 0 0, .bool false] 28)
      rwa [World.size_alloc] at this
    · have := Holds.new ((w.alloc (.cells #[.bool false, .slice none 0 0, .bool false] 28)).alloc (.cells #[.bool false, .slice none 0 0, .bool false] 28)) #[.bool (absP s), .slice none 0 0, .bool false] 28
      rwa [World.size_alloc, World.size_alloc] at this
  case round =>
    obtain ⟨k, P, c, v, d, hk, rfl, rfl, ⟨hpg, hc, hok, hd⟩, hR⟩ := hrel
    have HK := Lib.hid hok
    have HR := Lib.hid hR
    obtain ⟨hr, hn, hv, hrow, hB⟩ := hR
    have hml : maxLen = 9223372036854775807 := rfl
    have hBs := hB.size
    have hvl := hv.lt
    have hPl : (P.filter keepP).length ≤ 257 := by
      have q1 := pg_len [] s
      have q2 := List.length_filter_le keepP P
      rw [hpg, List.length_append] at q1
      omega
    have n0 := hn.cell 0; have n1 := hn.cell 1; have n2 := hn.cell 2
    have r0 := hr.cell 0; have r1 := hr.cell 1; have r2 := hr.cell 2; have g0 := hr.frozen 0; have g1 := hr.frozen 1; have g2 := hr.frozen 2
    have v1 := hv.cell 1; have v2 := hv.cell 2; have vf1 := hv.frozen 1; have vf2 := hv.frozen 2
    by_cases hkn : k ≤ s.length
    · have ik : (k : Int) ≤ (s.length : Int) := by omega
      rw [if_pos hkn] at hpg
      by_cases hx : ∃ x, s[k]? = some x ∧ x ≠ 47
      · obtain ⟨x, hx1, hx2⟩ := hx
        have hlt := (List.getElem?_eq_some_iff.1 hx1).1
        have iB : (k : Int) < (s.length : Int) := by omega
        have hib : k < (bsL s).size := by omega
        have hxx : (bsL s)[k]'hib = x := Option.some.inj ((bsL_at hib).symm.trans hx1)
        have n47 : ((x.toNat : Int) == 47) = false := by
          rw [beq_eq_false_iff_ne]; intro e; apply hx2; apply UInt8.toNat_inj.1; have e2 : x.toNat = 47 := by omega
          rw [e2]; rfl
        have n47b : ((x.toNat : Int) != 47) = true := by rw [bne, n47]; rfl
        have hex := bs_at hx1
        have had := bs_add c x
        have hsum : ¬ (9223372036854775807 < (bsL c).size + (bsL [x]).size) := by rw [bsL_size, bsL_size]; simp; omega
        have HS := Lib.hid (show pg [] s = P ++ (if k + 1 ≤ s.length then pg (c ++ [x]) (s.drop (k + 1)) else []) by
          rw [hpg, if_pos (by omega), List.drop_eq_getElem_cons hlt, (List.getElem?_eq_some_iff.1 hx1).2, pg, if_neg hx2])
        have u1 : IntKind.i64.wrap ((k : Int) + 1) = (k + 1 : Nat) := by rw [IntWalk.i64_in _ (by omega)]; omega
        have j1 : (k : Int) + 1 ≤ (s.length : Int) := by omega
        have j2 : (0 : Int) ≤ (k : Int) + 1 := by omega
        have j3 : (k : Int) ≤ (k : Int) + 1 := by omega
        clear hpg hx2 hx1
        go_wp2
        go_roundw
        case rel => exact ⟨k + 1, P, c ++ [x], v, d, by omega, rfl, by go_num, ⟨HS.out, by simp; omega, HK.out, fun q => absurd q (by omega)⟩, HR.out⟩
        case measure => simp [intOf]; omega
      · have hq : k = s.length ∨ (k < s.length ∧ s[k]? = some 47) := by
          by_cases h1 : k = s.length
          · exact .inl h1
          · have h2 : k < s.length := by omega
            refine .inr ⟨h2, ?_⟩
            rw [List.getElem?_eq_getElem h2]
            by_cases h3 : s[k] = 47
            · rw [h3]
            · exact absurd ⟨s[k], List.getElem?_eq_getElem h2, h3⟩ hx
        have HS := Lib.hid (show pg [] s = (P ++ [c]) ++ (if k + 1 ≤ s.length then pg [] (s.drop (k + 1)) else []) by
          rw [hpg]
          rcases hq with h1 | ⟨h1, h2⟩
          · rw [h1, List.drop_length, if_neg (by omega)]; simp [pg]
          · rw [if_pos (by omega), List.drop_eq_getElem_cons h1, (List.getElem?_eq_some_iff.1 h2).2, pg, if_pos rfl]; simp)
        have u1 : IntKind.i64.wrap ((k : Int) + 1) = (k + 1 : Nat) := by rw [IntWalk.i64_in _ (by omega)]; omega
        clear hpg hx
        rcases hq with hq | ⟨hlt, h47⟩
        · have iA : ¬ ((k : Int) < (s.length : Int)) := by omega
          have iA2 : decide ((k : Int) < (s.length : Int)) = false := decide_eq_false iA
          by_cases c0 : c = []
          · subst c0
            have hl := bsL_list []
            have HF := Lib.hid (show (P ++ [[]]).filter keepP = P.filter keepP by rw [List.filter_append]; simp [keepP])
            go_wp2
            go_roundw
            case rel => exact ⟨k + 1, P ++ [[]], [], v, true, by omega, rfl, by go_num, ⟨HS.out, by simp, by rw [HF.out]; exact HK.out, fun _ => by simp [keepP]⟩, by rw [HF.out]; exact HR.out.dir true⟩
            case measure => simp [intOf]; omega
          · by_cases c1 : c = [46]
            · subst c1
              have hl := bsL_list [46]
              have HF := Lib.hid (show (P ++ [[46]]).filter keepP = P.filter keepP by rw [List.filter_append]; simp [keepP])
              go_wp2
              go_roundw
              case rel => exact ⟨k + 1, P ++ [[46]], [], v, true, by omega, rfl, by go_num, ⟨HS.out, by simp, by rw [HF.out]; exact HK.out, fun _ => by simp [keepP]⟩, by rw [HF.out]; exact HR.out.dir true⟩
              case measure => simp [intOf]; omega
            · have hkc : keepP c = true := by simp [keepP, c0, c1]
              have hl := bsL_list c
              have f0 : c.isEmpty = false := by simpa using c0
              have f1 : (c == [46]) = false := by simpa using c1
              have HF := Lib.hid (show (P ++ [c]).filter keepP = P.filter keepP ++ [c] by rw [List.filter_append]; simp [hkc])
              have HI := Lib.hid (fun W => rname_at c W (by omega))
              by_cases c2 : c = [46, 46]
              · subst c2
                clear f0 f1 hkc
                have hkc : keepP [46, 46] = true := by decide
                have HE0 := Lib.hid (show nmE [46, 46] = 18 by decide)
                have HO := Lib.hid (show ((P ++ [[46, 46]]).filter keepP).all okP = true by rw [List.filter_append, List.all_append, HK.out]; simp [hkc, okP])
                go_wp2_with (first
                  | (go_at_call 15; refine (HI.out _).mono ?_; rintro e w2 ⟨rfl, hw⟩; rw [hw, HE0.out])
                  | (at_builtin; refine wpList_append_own _ rfl _ _ 22 rfl w.heap.size 9 i00 _ 1 16 Try.underlying22 hi hz0 hz1 hz2 rfl (by decide) _ _ _ rfl (hrow.alloc _) ⟨wr.heap.size, 0, none⟩ 1 1 [.string (bsL [46, 46])] rfl rfl (cell_one_new _ _ _) (by simp [Value.oneCell']) (by omega) (by omega) (by simp; omega) ?_; intro v' w1 hown' hgrow _; obtain ⟨g', cap', rfl⟩ := ownsRow_succ hown'; obtain ⟨hv1, hv2, hr2, hk2, hb2, hsz, hoth⟩ := way_appended hv (by decide) hrow hB.size (by omega) hown' hgrow; have hc1 := hv1.cell 1; have hf1 := hv1.frozen 1; have hc2 := hv2.cell 2; have hf2 := hv2.frozen 2))
                go_roundw
                case rel => exact ⟨k + 1, P ++ [[46, 46]], [], _, false, by omega, rfl, by go_num, ⟨HS.out, by simp, HO.out, fun _ => by simp [hkc]⟩, by rw [HF.out]; exact (HR.out.app hr2 hv2 hb2 hoth).dir false⟩
                case measure => simp [intOf]; omega
              · have f2 : (c == [46, 46]) = false := by simpa using c2
                by_cases c3 : nameP c = true
                · have HE0 := Lib.hid (show nmE c = 0 by unfold nmE; rw [c3]; rfl)
                  have HO := Lib.hid (show ((P ++ [c]).filter keepP).all okP = true by rw [List.filter_append, List.all_append, HK.out]; simp [hkc, okP, c3])
                  go_wp2_with (first
                    | (go_at_call 15; refine (HI.out _).mono ?_; rintro e w2 ⟨rfl, hw⟩; rw [hw, HE0.out])
                    | (at_builtin; refine wpList_append_own _ rfl _ _ 22 rfl w.heap.size 9 i00 _ 1 16 Try.underlying22 hi hz0 hz1 hz2 rfl (by decide) _ _ _ rfl (hrow.alloc _) ⟨wr.heap.size, 0, none⟩ 1 1 [.string (bsL c)] rfl rfl (cell_one_new _ _ _) (by simp [Value.oneCell']) (by omega) (by omega) (by simp; omega) ?_; intro v' w1 hown' hgrow _; obtain ⟨g', cap', rfl⟩ := ownsRow_succ hown'; obtain ⟨hv1, hv2, hr2, hk2, hb2, hsz, hoth⟩ := way_appended hv (by decide) hrow hB.size (by omega) hown' hgrow; have hc1 := hv1.cell 1; have hf1 := hv1.frozen 1; have hc2 := hv2.cell 2; have hf2 := hv2.frozen 2))
                  go_roundw
                  case rel => exact ⟨k + 1, P ++ [c], [], _, false, by omega, rfl, by go_num, ⟨HS.out, by simp, HO.out, fun _ => by simp [hkc]⟩, by rw [HF.out]; exact (HR.out.app hr2 hv2 hb2 hoth).dir false⟩
                  case measure => simp [intOf]; omega
                · have HE0 := Lib.hid (show nmE c = 18 by unfold nmE; rw [if_neg c3])
                  have HX := Lib.hid (show (18 : Int) = errP s by
                    unfold errP
                    have hno : (partsP s).all okP = false := by
                      unfold partsP; rw [HS.out, List.filter_append, List.filter_append, List.all_append, List.all_append]; simp [hkc, okP, c2, c3]
                    rw [if_neg h0, if_neg (by omega), hno]; rfl)
                  go_wp2_with (go_at_call 15; refine (HI.out _).mono ?_; rintro e w2 ⟨rfl, hw⟩; rw [hw, HE0.out])
                  exact rparse_ret w _ s 18 HX.out (by decide) _ rfl rfl rfl (((hr.set 0 _).set 1 _).set 2 _) (((hB.setCell (p := ⟨w.heap.size, 0, none⟩) (Nat.le_refl _) _).setCell (p := ⟨w.heap.size, 1, none⟩) (Nat.le_refl _) _).setCell (p := ⟨w.heap.size, 2, none⟩) (Nat.le_refl _) _)
        · have iB : (k : Int) < (s.length : Int) := by omega
          have iB2 : decide ((k : Int) < (s.length : Int)) = true := decide_eq_true iB
          have hib : k < (bsL s).size := by omega
          obtain ⟨x, hx⟩ : ∃ x : UInt8, (bsL s)[k]'hib = x := ⟨_, rfl⟩
          have n47 : ((x.toNat : Int) == 47) = true := by
            have : x = 47 := Option.some.inj ((by rw [← hx]; exact (bsL_at hib).symm : some x = s[k]?).trans h47)
            rw [this]; rfl
          have n47b : ((x.toNat : Int) != 47) = false := by rw [bne, n47]; rfl
          clear h47
          by_cases c0 : c = []
          · subst c0
            have hl := bsL_list []
            have HF := Lib.hid (show (P ++ [[]]).filter keepP = P.filter keepP by rw [List.filter_append]; simp [keepP])
            go_wp2
            go_roundw
            case rel => exact ⟨k + 1, P ++ [[]], [], v, true, by omega, rfl, by go_num, ⟨HS.out, by simp, by rw [HF.out]; exact HK.out, fun _ => by simp [keepP]⟩, by rw [HF.out]; exact HR.out.dir true⟩
            case measure => simp [intOf]; omega
          · by_cases c1 : c = [46]
            · subst c1
              have hl := bsL_list [46]
              have HF := Lib.hid (show (P ++ [[46]]).filter keepP = P.filter keepP by rw [List.filter_append]; simp [keepP])
              go_wp2
              go_roundw
              case rel => exact ⟨k + 1, P ++ [[46]], [], v, true, by omega, rfl, by go_num, ⟨HS.out, by simp, by rw [HF.out]; exact HK.out, fun _ => by simp [keepP]⟩, by rw [HF.out]; exact HR.out.dir true⟩
              case measure => simp [intOf]; omega
            · have hkc : keepP c = true := by simp [keepP, c0, c1]
              have hl := bsL_list c
              have f0 : c.isEmpty = false := by simpa using c0
              have f1 : (c == [46]) = false := by simpa using c1
              have HF := Lib.hid (show (P ++ [c]).filter keepP = P.filter keepP ++ [c] by rw [List.filter_append]; simp [hkc])
              have HI := Lib.hid (fun W => rname_at c W (by omega))
              by_cases c2 : c = [46, 46]
              · subst c2
                clear f0 f1 hkc
                have hkc : keepP [46, 46] = true := by decide
                have HE0 := Lib.hid (show nmE [46, 46] = 18 by decide)
                have HO := Lib.hid (show ((P ++ [[46, 46]]).filter keepP).all okP = true by rw [List.filter_append, List.all_append, HK.out]; simp [hkc, okP])
                go_wp2_with (first
                  | (go_at_call 15; refine (HI.out _).mono ?_; rintro e w2 ⟨rfl, hw⟩; rw [hw, HE0.out])
                  | (at_builtin; refine wpList_append_own _ rfl _ _ 22 rfl w.heap.size 9 i00 _ 1 16 Try.underlying22 hi hz0 hz1 hz2 rfl (by decide) _ _ _ rfl (hrow.alloc _) ⟨wr.heap.size, 0, none⟩ 1 1 [.string (bsL [46, 46])] rfl rfl (cell_one_new _ _ _) (by simp [Value.oneCell']) (by omega) (by omega) (by simp; omega) ?_; intro v' w1 hown' hgrow _; obtain ⟨g', cap', rfl⟩ := ownsRow_succ hown'; obtain ⟨hv1, hv2, hr2, hk2, hb2, hsz, hoth⟩ := way_appended hv (by decide) hrow hB.size (by omega) hown' hgrow; have hc1 := hv1.cell 1; have hf1 := hv1.frozen 1; have hc2 := hv2.cell 2; have hf2 := hv2.frozen 2))
                go_roundw
                case rel => exact ⟨k + 1, P ++ [[46, 46]], [], _, false, by omega, rfl, by go_num, ⟨HS.out, by simp, HO.out, fun _ => by simp [hkc]⟩, by rw [HF.out]; exact (HR.out.app hr2 hv2 hb2 hoth).dir false⟩
                case measure => simp [intOf]; omega
              · have f2 : (c == [46, 46]) = false := by simpa using c2
                by_cases c3 : nameP c = true
                · have HE0 := Lib.hid (show nmE c = 0 by unfold nmE; rw [c3]; rfl)
                  have HO := Lib.hid (show ((P ++ [c]).filter keepP).all okP = true by rw [List.filter_append, List.all_append, HK.out]; simp [hkc, okP, c3])
                  go_wp2_with (first
                    | (go_at_call 15; refine (HI.out _).mono ?_; rintro e w2 ⟨rfl, hw⟩; rw [hw, HE0.out])
                    | (at_builtin; refine wpList_append_own _ rfl _ _ 22 rfl w.heap.size 9 i00 _ 1 16 Try.underlying22 hi hz0 hz1 hz2 rfl (by decide) _ _ _ rfl (hrow.alloc _) ⟨wr.heap.size, 0, none⟩ 1 1 [.string (bsL c)] rfl rfl (cell_one_new _ _ _) (by simp [Value.oneCell']) (by omega) (by omega) (by simp; omega) ?_; intro v' w1 hown' hgrow _; obtain ⟨g', cap', rfl⟩ := ownsRow_succ hown'; obtain ⟨hv1, hv2, hr2, hk2, hb2, hsz, hoth⟩ := way_appended hv (by decide) hrow hB.size (by omega) hown' hgrow; have hc1 := hv1.cell 1; have hf1 := hv1.frozen 1; have hc2 := hv2.cell 2; have hf2 := hv2.frozen 2))
                  go_roundw
                  case rel => exact ⟨k + 1, P ++ [c], [], _, false, by omega, rfl, by go_num, ⟨HS.out, by simp, HO.out, fun _ => by simp [hkc]⟩, by rw [HF.out]; exact (HR.out.app hr2 hv2 hb2 hoth).dir false⟩
                  case measure => simp [intOf]; omega
                · have HE0 := Lib.hid (show nmE c = 18 by unfold nmE; rw [if_neg c3])
                  have HX := Lib.hid (show (18 : Int) = errP s by
                    unfold errP
                    have hno : (partsP s).all okP = false := by
                      unfold partsP; rw [HS.out, List.filter_append, List.filter_append, List.all_append, List.all_append]; simp [hkc, okP, c2, c3]
                    rw [if_neg h0, if_neg (by omega), hno]; rfl)
                  go_wp2_with (go_at_call 15; refine (HI.out _).mono ?_; rintro e w2 ⟨rfl, hw⟩; rw [hw, HE0.out])
                  exact rparse_ret w _ s 18 HX.out (by decide) _ rfl rfl rfl (((hr.set 0 _).set 1 _).set 2 _) (((hB.setCell (p := ⟨w.heap.size, 0, none⟩) (Nat.le_refl _) _).setCell (p := ⟨w.heap.size, 1, none⟩) (Nat.le_refl _) _).setCell (p := ⟨w.heap.size, 2, none⟩) (Nat.le_refl _) _)
    · have ik : ¬ ((k : Int) ≤ (s.length : Int)) := by omega
      rw [if_neg hkn, List.append_nil] at hpg
      have hd3 := hd (by omega)
      have hE : P.filter keepP = partsP s := by unfold partsP; rw [hpg]
      have HD := Lib.hid (show (!keepP ((P.getLast?).getD [])) = dirP s by unfold dirP lastP; rw [hpg])
      obtain rfl : d = dirP s := hd3.trans HD.out
      clear hd hd3
      have HX := Lib.hid (show errP s = 0 by unfold errP; rw [if_neg h0, if_neg (by omega), ← hE, HK.out]; rfl)
      rw [hE] at hrow
      obtain ⟨ao, cap, rfl, -⟩ := own_slS hrow
      have v0 := hv.cell 0
      have v1 := hv.cell 1
      have v2 := hv.cell 2
      clear hpg hE
      go_wp2
      have o0 := hrow.kept (grownBy_setOff wr w.heap.size 0 (.bool (absP s))) (.inr (hr.not_row (by decide) hrow).symm)
      have a0 := hr.set 0 (.bool (absP s))
      have o1 := o0.kept (grownBy_setOff _ w.heap.size 1 (.slice ao (partsP s).length cap)) (.inr (a0.not_row (by decide) o0).symm)
      have a1 := a0.set 1 (.slice ao (partsP s).length cap)
      have o2 := o1.kept (grownBy_setOff _ w.heap.size 2 (.bool (dirP s))) (.inr (a1.not_row (by decide) o1).symm)
      have a2 := a1.set 2 (.bool (dirP s))
      exact rparse_end w _ s HX.out _ ao (partsP s).length cap rfl rfl rfl a2 o2 (((hB.setCell (p := ⟨w.heap.size, 0, none⟩) (Nat.le_refl _) _).setCell (p := ⟨w.heap.size, 1, none⟩) (Nat.le_refl _) _).setCell (p := ⟨w.heap.size, 2, none⟩) (Nat.le_refl _) _)
/-- The document's Parse. -/
theorem rparse_at (s : List UInt8) (w : World) : Calls Try.prog 8 #[.string (bsL s)] w (ParS s w) := by
  by_cases h0 : s = []
  · subst h0; exact rparse_nil w
  · by_cases h1 : s.length ≤ 256
    · exact rparse_main s w h0 h1
    · exact rparse_long s w (by omega)

end Go.Proofs.Ytnmenihahgggmaa
