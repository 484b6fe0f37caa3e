/-
  MgB: ExH, ExI, ExJ, ExK, ExL, ExM.
-/
import Derived.Test.YtpkhfdcokcchdaaMgA
import Derived.Deep.RegionHeld3
import Derived.Laws.IdiomCopy

/-
  Layer 15: the program's valid, Append, split.
-/
namespace Go.Proofs.Ytpkhfdcokcchdaa
open Go.RowKit

theorem sl2_parts {w : World} {ao : Option Addr} {n cap : Nat} {l : List (Int × Int)} (h : Sl2 w (.slice ao n cap) l) : n = l.length ∧ Rd2 w ao l ∧ n ≤ cap ∧ cap ≤ maxLen ∧ (ao = none → cap = 0) := by
  obtain ⟨a, c, hv, h1, h2, h3, h4⟩ := h
  injection hv with q1 q2 q3
  subst q1 q2 q3
  exact ⟨rfl, h1, h2, h3, h4⟩
theorem evalid_any (l : List (Int × Int)) (L : Nat) (ao : Option Addr) (cap : Nat) (w : World) (h : Rd2 w ao l) (hL : L = l.length) :
    Calls Try.prog 100 #[.slice ao L cap] w fun e w' => Gr [] w w' ∧ ((¬ Right15 l ∧ e = .returned (.tuple #[.slice none 0 0, .int .i64 7])) ∨ (Right15 l ∧ e = .returned (.tuple #[.slice ao L cap, .int .i64 0]))) := by
  by_cases hr : Right15 l
  · have HC := Lib.hid (eright_yes l L ao cap w h hL hr)
    have HR := Lib.hid hr
    clear h hL hr
    go_enter Try.func100, Try.ntmps100
    go_wp2_with fail
    refine HC.out.mono ?_
    rintro e w5 ⟨rfl, g5⟩
    have HG := Lib.hid g5
    clear g5
    go_wp2_with fail
    exact bodyPost_ret (v := .tuple #[.slice ao L cap, .int .i64 0]) (by simp [results, Try.results100, go_sem]) rfl ⟨HG.out, .inr ⟨HR.out, rfl⟩⟩
  · have HC := Lib.hid (eright_no l L ao cap w h hL hr)
    have HR := Lib.hid hr
    clear h hL hr
    go_enter Try.func100, Try.ntmps100
    go_wp2_with fail
    refine HC.out.mono ?_
    rintro e w5 ⟨rfl, g5⟩
    have HG := Lib.hid g5
    clear g5
    go_wp2_with fail
    exact bodyPost_ret (v := .tuple #[.slice none 0 0, .int .i64 7]) (by simp [results, Try.results100, go_sem]) rfl ⟨HG.out, .inl ⟨HR.out, rfl⟩⟩
theorem one_right (e : Int × Int) : Right15 [e] ↔ (-1 ≤ e.1 ∧ e.1 ≤ 65536 ∧ 1 ≤ e.2 ∧ e.2 ≤ 65536) := by
  constructor
  · intro h; exact (okK_all h.2.1).1 e (by simp)
  · intro h
    exact ⟨by simp, okK_one rfl h, by simp [sumZ]; omega⟩
theorem holds_rd_one {W : World} {b : Nat} {x y : Int} {t : TypeId} (h : Holds W b #[.int .i64 x, .int .i64 y] t) : Rd2 W (some ⟨b, 0, none⟩) [(x, y)] := by
  intro i e hi
  match i, hi with
  | 0, hi => simp at hi; subst hi; exact ⟨b, 0, rfl, h.lt, h.cell 0, h.cell 1⟩
  | i + 1, hi => simp at hi

set_option maxHeartbeats 4000000 in
set_option maxRecDepth 20000 in
theorem eappend_any (l : List (Int × Int)) (L : Nat) (ao : Option Addr) (cap : Nat) (a n : Int) (w : World) (h : Sl2 w (.slice ao L cap) l) :
    Calls Try.prog 53 #[.slice ao L cap, .agg #[.int .i64 a, .int .i64 n]] w fun e w' => Gr [] w w' ∧
      ((¬ Right15 l ∧ e = .returned (.tuple #[.slice none 0 0, .int .i64 2])) ∨
       (Right15 l ∧ ¬ (Right15 [(a, n)] ∧ Right15 (joinP (l ++ [(a, n)]))) ∧ e = .returned (.tuple #[.slice none 0 0, .int .i64 7])) ∨
       (Right15 l ∧ Right15 [(a, n)] ∧ Right15 (joinP (l ++ [(a, n)])) ∧ ∃ ao' cap', e = .returned (.tuple #[.slice ao' (joinP (l ++ [(a, n)])).length cap', .int .i64 0]) ∧ Sl2 w' (.slice ao' (joinP (l ++ [(a, n)])).length cap') (joinP (l ++ [(a, n)])))) := by
  obtain ⟨hL, hrd, hcap, hmx, hnn⟩ := sl2_parts h
  have HBX := Lib.hid (Holds.new w #[.int .i64 a, .int .i64 n] 35)
  have HG0 := Lib.hid ((Gr.refl [] w).alloc (Obj.cells #[.int .i64 a, .int .i64 n] 35))
  have HL := Lib.hid hL
  have HCP := Lib.hid (And.intro hcap hnn)
  have HRD := Lib.hid hrd
  by_cases hr : Right15 l
  · have HC := Lib.hid (fun W (g : Gr [] w W) => eright_yes l L ao cap W (hrd.gr0 g) hL hr)
    have HR := Lib.hid hr
    clear h hrd hcap hmx hnn hL hr
    go_enter Try.func53, Try.ntmps53
    go_wp2_with fail
    generalize w.alloc (Obj.cells #[.int .i64 a, .int .i64 n] 35) = wa at *
    obtain ⟨b0, hb0⟩ : ∃ b, w.heap.size = b := ⟨_, rfl⟩
    rw [hb0] at HBX ⊢
    clear hb0
    refine (HC.out _ HG0.out).mono ?_
    rintro e w1 ⟨rfl, g1⟩
    have H1 := Lib.hid (And.intro (HBX.out.gr0 g1) (HG0.out.next0 g1))
    clear g1 HBX HG0 HC
    have c0 := H1.out.1.cell 0
    have c1 := H1.out.1.cell 1
    have HY := Lib.hid (holds_rd_one (Holds.new w1 #[.int .i64 a, .int .i64 n] 35))
    have HG2 := Lib.hid (H1.out.2.alloc (Obj.cells #[.int .i64 a, .int .i64 n] 35))
    go_wp2_with fail
    generalize w1.alloc (Obj.cells #[.int .i64 a, .int .i64 n] 35) = w2 at *
    obtain ⟨b1, hb1⟩ : ∃ b, w1.heap.size = b := ⟨_, rfl⟩
    rw [hb1] at HY ⊢
    clear hb1 c0 c1 H1
    by_cases he : Right15 [(a, n)]
    · have hbd := (one_right (a, n)).1 he
      simp only at hbd
      refine (eright_yes [(a, n)] 1 (some ⟨b1, 0, none⟩) 1 w2 HY.out rfl he).mono ?_
      rintro e w3 ⟨rfl, g3⟩
      have H3 := Lib.hid (And.intro (HG2.out.next0 g3) (HY.out.gr0 g3))
      have HE := Lib.hid he
      clear g3 HY HG2 he
      have hall : ∀ e ∈ l ++ [(a, n)], -1 ≤ e.1 ∧ e.1 ≤ 9223372036854775807 ∧ 1 ≤ e.2 ∧ e.2 ≤ 65536 := by
        intro e hm
        rcases List.mem_append.1 hm with q | q
        · have := (okK_all HR.out.2.1).1 e q; omega
        · simp at q; subst q; simp only; omega
      have HCAT := Lib.hid (show CatIn [(ao, cap, l), (some ⟨b1, 0, none⟩, 1, [(a, n)])] w3.heap.size (w3.alloc (Obj.cells #[.slice ao L cap, .slice (some ⟨b1, 0, none⟩) 1 1] 82)) from by
        have gx := (Gr.refl [] w3).alloc (Obj.cells #[.slice ao L cap, .slice (some ⟨b1, 0, none⟩) 1 1] 82)
        have X := Holds.new w3 #[.slice ao L cap, .slice (some ⟨b1, 0, none⟩) 1 1] 82
        refine ⟨fun i x hx => ?_, X.lt, fun x hx => ?_, fun x hx => ?_⟩
        · match i, hx with
          | 0, hx => simp at hx; subst hx; rw [← HL.out]; exact X.cell 0
          | 1, hx => simp at hx; subst hx; exact X.cell 1
          | i + 2, hx => simp at hx
        · simp at hx
          rcases hx with rfl | rfl
          · exact (HRD.out.gr0 H3.out.1).gr0 gx
          · exact H3.out.2.gr0 gx
        · simp at hx
          rcases hx with rfl | rfl
          · exact ⟨by rw [← HL.out]; exact HCP.out.1, HCP.out.2⟩
          · exact ⟨Nat.le_refl _, fun e => by cases e⟩)
      have HGC := Lib.hid (H3.out.1.alloc (Obj.cells #[.slice ao L cap, .slice (some ⟨b1, 0, none⟩) 1 1] 82))
      have HJ := Lib.hid (ejoin_any _ (l ++ [(a, n)]) _ 2 _ (by simp [catP]) HCAT.out (by simp) (by have := HR.out.1; simp; omega) hall)
      clear hall hbd
      go_wp2_with fail
      refine HJ.out.mono ?_
      rintro e w4 ⟨ao', cap', rfl, ho4, g4⟩
      obtain ⟨RL, hRL⟩ : ∃ RL, RL = joinP (l ++ [(a, n)]) := ⟨_, rfl⟩
      have HRL := Lib.hid hRL
      rw [← hRL] at ho4 ⊢
      have hs4 := own_sl2 ho4
      have H4 := Lib.hid (And.intro (HGC.out.next0 g4) hs4)
      clear ho4 g4 hRL HJ HCAT HGC H3 hs4
      go_wp2_with fail
      refine (evalid_any RL RL.length ao' cap' w4 (sl2_parts H4.out.2).2.1 rfl).mono ?_
      rintro e w5 ⟨g5, ⟨hno, rfl⟩ | ⟨hyes, rfl⟩⟩
      · have H5 := Lib.hid (H4.out.1.next0 g5)
        have HNO := Lib.hid hno
        clear g5 hno
        go_wp2_with fail
        exact bodyPost_ret (v := .tuple #[.slice none 0 0, .int .i64 7]) (by simp [results, Try.results53, go_sem]) rfl ⟨H5.out, .inr (.inl ⟨HR.out, fun q => HNO.out (by rw [HRL.out]; exact q.2), rfl⟩)⟩
      · have H5 := Lib.hid (And.intro (H4.out.1.next0 g5) (H4.out.2.gr0 g5))
        have HYE := Lib.hid hyes
        clear g5 hyes
        go_wp2_with fail
        exact bodyPost_ret (v := .tuple #[.slice ao' RL.length cap', .int .i64 0]) (by simp [results, Try.results53, go_sem]) rfl ⟨H5.out.1, .inr (.inr ⟨HR.out, HE.out, by rw [← HRL.out]; exact HYE.out, ao', cap', by rw [← HRL.out], by rw [← HRL.out]; exact H5.out.2⟩)⟩
    · refine (eright_no [(a, n)] 1 (some ⟨b1, 0, none⟩) 1 w2 HY.out rfl he).mono ?_
      rintro e w3 ⟨rfl, g3⟩
      have H3 := Lib.hid (HG2.out.next0 g3)
      have HE := Lib.hid he
      clear g3 HY HG2 he
      go_wp2_with fail
      exact bodyPost_ret (v := .tuple #[.slice none 0 0, .int .i64 7]) (by simp [results, Try.results53, go_sem]) rfl ⟨H3.out, .inr (.inl ⟨HR.out, fun q => HE.out q.1, rfl⟩)⟩
  · have HC := Lib.hid (fun W (g : Gr [] w W) => eright_no l L ao cap W (hrd.gr0 g) hL hr)
    have HR := Lib.hid hr
    clear h hrd hcap hmx hnn hL hr
    go_enter Try.func53, Try.ntmps53
    go_wp2_with fail
    refine (HC.out _ HG0.out).mono ?_
    rintro e w1 ⟨rfl, g1⟩
    have H1 := Lib.hid (HG0.out.next0 g1)
    clear g1
    go_wp2_with fail
    exact bodyPost_ret (v := .tuple #[.slice none 0 0, .int .i64 2]) (by simp [results, Try.results53, go_sem]) rfl ⟨H1.out, .inl ⟨HR.out, rfl⟩⟩

theorem minZ (P : Program) (x y m : Int) (h : m = min x y) (ts : Array TypeId) (t : TypeId) (w : World) : (Builtin.min_ ts t #[.int .i64 x, .int .i64 y]).run P w = .ok (.int .i64 m) w := by
  rw [run_min_int2]
  have : (if y < x then y else x) = m := by split <;> omega
  rw [this]
/-- Two rows that a call makes at the same time. -/
structure Two (w W : World) (vF vR : Value) (F R : List (Int × Int)) : Prop where
  f : W.ownsRow w.heap.size 35 2 vF F.length (cells2 F)
  r : W.ownsRow w.heap.size 35 2 vR R.length (cells2 R)
  ne : ∀ g, vF.ownBlock = some g → vR.ownBlock ≠ some g
  gr : Gr [] w W
theorem Two.gr0 {w W W' : World} {vF vR : Value} {F R : List (Int × Int)} (h : Two w W vF vR F R) (g : Gr [] W W') : Two w W' vF vR F R := ⟨own_gr0 h.f g, own_gr0 h.r g, h.ne, h.gr.next0 g⟩
theorem Two.swap {w W : World} {vF vR : Value} {F R : List (Int × Int)} (h : Two w W vF vR F R) : Two w W vR vF R F := ⟨h.r, h.f, fun g h1 h2 => h.ne g h2 h1, h.gr⟩
/-- One more in the first of them. -/
theorem Two.more {w W W' : World} {vF vR : Value} {F R : List (Int × Int)} {x : Int × Int} {g c : Nat} (h : Two w W vF vR F R) (ho : W'.ownsRow w.heap.size 35 2 (.slice (some ⟨g, 0, none⟩) (F.length + 1) c) (F.length + 1) (cells2 F ++ [.int .i64 x.1, .int .i64 x.2])) (hg : W.grownBy W' vF.ownBlock) (hat : vF.ownBlock = some g ∨ g = W.heap.size) :
    Two w W' (.slice (some ⟨g, 0, none⟩) (F.length + 1) c) vR (F ++ [x]) R := by
  refine ⟨?_, own_gr h.r (gr_grown hg) (fun b hb hm => ?_), fun g' h1 h2 => ?_, h.gr.nextN (gr_grown hg) (fun y hy => .inr (h.f.lt y (by simpa using hy)).1)⟩
  · rw [List.length_append, cells2_append]; exact ho
  · exact h.ne b (by simpa using hm) hb
  · have e1 : g = g' := by simpa [Value.ownBlock] using h1
    subst e1
    rcases hat with q | q
    · exact h.ne g q h2
    · have := (h.r.lt g h2).2; omega

set_option maxHeartbeats 8000000 in
set_option maxRecDepth 20000 in
theorem esplit_any (l : List (Int × Int)) (L n : Nat) (ao : Option Addr) (cap : Nat) (w : World) (h : Rd2 w ao l) (hL : L = l.length) (hL70 : L ≤ 100) (hb : ∀ e ∈ l, -1 ≤ e.1 ∧ e.1 ≤ 1000000 ∧ 1 ≤ e.2 ∧ e.2 ≤ 65536) (hn : n ≤ 100000000) :
    Calls Try.prog 102 #[.slice ao L cap, .int .i64 n] w fun e w' => ∃ vF vR, e = .returned (.tuple #[vF, vR]) ∧ Two w w' vF vR (firstP l n) (restP l n) := by
  obtain ⟨i0, hi0, hz0, hz1, hz2⟩ := info_parts infoExt
  have HR := Lib.hid h
  have HL := Lib.hid hL
  have HB := Lib.hid hb
  clear h hL hb
  go_enter Try.func102, Try.ntmps102
  go_wp2_with fail
  go_loopw [1, 6, 7, 13] (fun nv vF vR i wr => ∃ (k r : Nat) (F R : List (Int × Int)), k ≤ L ∧ i = .int .i64 k ∧ nv = .int .i64 r ∧ r ≤ n ∧ F.length ≤ k ∧ R.length ≤ k ∧ Hid (F ++ firstP (l.drop k) r = firstP l n) ∧ Hid (R ++ restP (l.drop k) r = restP l n) ∧ Two w wr vF vR F R) (fun _ _ _ i _ => L - (intOf i).toNat)
  case atStart => exact ⟨0, n, [], [], by omega, rfl, rfl, Nat.le_refl _, Nat.le_refl _, Nat.le_refl _, Lib.hid rfl, Lib.hid rfl, World.ownsRow_nil _ _ _ _, World.ownsRow_nil _ _ _ _, fun g q => (by cases q), Gr.refl _ _⟩
  case round =>
    obtain ⟨k, r, F, R, hk, rfl, rfl, hrn, hFl, hRl, HF, HRR, T⟩ := hrel
    have HT := Lib.hid T
    have hszw := T.gr.size
    obtain ⟨aF, cF, hvF⟩ := own_form T.f
    obtain ⟨aR, cR, hvR⟩ := own_form T.r
    clear T
    subst hvF hvR
    by_cases hkL : k < L
    · have hkL2 : (k : Int) < (L : Int) := by omega
      obtain ⟨⟨e1, e2⟩, he⟩ : ∃ e, l[k]? = some e := ⟨_, List.getElem?_eq_getElem (by have := HL.out; omega)⟩
      obtain ⟨b, o, hao, hbk, x0, x1⟩ := HR.out k _ he
      have y0 : wr.cell? ⟨b, o + k * 2, none⟩ = some (.int .i64 e1) := (HT.out.gr.cell0 hbk).trans x0
      have y1 : wr.cell? ⟨b, o + k * 2 + 1, none⟩ = some (.int .i64 e2) := (HT.out.gr.cell0 hbk).trans x1
      have hm := HB.out _ (List.mem_of_getElem? he)
      simp only at hm
      have hfa := firstP_at he (r : Int)
      have hra := restP_at he (r : Int)
      simp only at hfa hra
      rw [hfa] at HF
      rw [hra] at HRR
      have HBX := Lib.hid (Holds.new wr #[.int .i64 e1, .int .i64 e2] 35)
      have HTB := Lib.hid (HT.out.gr0 ((Gr.refl [] wr).alloc (Obj.cells #[.int .i64 e1, .int .i64 e2] 35)))
      have hszb : w.heap.size ≤ (wr.alloc (Obj.cells #[.int .i64 e1, .int .i64 e2] 35)).heap.size := HTB.out.gr.size
      have HNB := Lib.hid (show (Value.slice aF F.length cF).ownBlock ≠ some wr.heap.size ∧ (Value.slice aR R.length cR).ownBlock ≠ some wr.heap.size from ⟨fun q => by have := (HT.out.f.lt _ q).2; omega, fun q => by have := (HT.out.r.lt _ q).2; omega⟩)
      obtain ⟨m, hmm⟩ : ∃ m : Nat, (m : Int) = min (r : Int) e2 := ⟨(min (r : Int) e2).toNat, by omega⟩
      have hmn := minZ Try.prog (r : Int) e2 (m : Int) hmm
      rw [← hmm] at HF HRR
      obtain ⟨r2, hr2⟩ : ∃ r2 : Nat, (r : Int) - (m : Int) = (r2 : Int) := ⟨r - m, by omega⟩
      have hr3 : IntKind.i64.wrap (r2 : Int) = (r2 : Int) := IntWalk.i64_in _ (by omega)
      rw [hr2] at HF HRR
      have hr4 : r2 ≤ n := by omega
      have hm1 : (m : Int) ≤ e2 := by omega
      have hm2 : m ≤ r := by omega
      subst hao
      clear hfa hra x0 x1 he HT hmm
      by_cases h0 : 0 < m
      · have d0 : decide ((0 : Int) < (m : Int)) = true := decide_eq_true (by omega)
        have d0n : decide (0 < m) = true := decide_eq_true h0
        rw [if_pos (show (0 : Int) < (m : Int) by omega)] at HF
        by_cases h1 : (m : Int) < e2
        · have d1 : decide ((m : Int) < e2) = true := decide_eq_true h1
          rw [if_pos h1] at HRR
          have HN3 := Lib.hid (Holds.new (wr.alloc (Obj.cells #[.int .i64 e1, .int .i64 e2] 35)) #[.int .i64 e1, .int .i64 m] 35)
          rw [World.size_alloc] at HN3
          have HO3 := Lib.hid (HTB.out.gr0 ((Gr.refl [] (wr.alloc (Obj.cells #[.int .i64 e1, .int .i64 e2] 35))).alloc (Obj.cells #[.int .i64 e1, .int .i64 m] 35)))
          have HB3 := Lib.hid (HBX.out.gr0 ((Gr.refl [] (wr.alloc (Obj.cells #[.int .i64 e1, .int .i64 e2] 35))).alloc (Obj.cells #[.int .i64 e1, .int .i64 m] 35)))
          have z0 := HBX.out.cell 0
          have z1 := HBX.out.cell 1
          have hone : ∀ u ∈ [Value.int .i64 e1, .int .i64 (m : Int)], u.oneCell' = true := by simp [Value.oneCell']
          go_wp2_with (at_builtin; refine wpList_append_lies _ rfl _ _ 82 rfl w.heap.size 35 i0 _ 2 16 Try.underlying82 hi0 hz0 hz1 hz2 rfl (by decide) _ _ _ rfl HO3.out.f ⟨wr.heap.size + 1, 0, none⟩ 1 1 [.int .i64 e1, .int .i64 m] rfl rfl (World.news_of_block HN3.out) hone (by decide) (by unfold maxLen; omega) (by omega) (by rw [World.size_alloc]; omega) _ rfl ?_)
          intro g4 cp4 w4 hown4 hgrow4 hat4 hlt4
          have HT4 := Lib.hid (HO3.out.more (x := (e1, (m : Int))) hown4 hgrow4 (hat4.imp id (fun q => by rw [q, World.size_alloc, World.size_alloc])))
          have HX4 := Lib.hid (HB3.out.gr (gr_grown hgrow4) (fun q => HNB.out.1 (by simpa using q)))
          have HNR := Lib.hid HNB.out.2
          have hF1 : (F ++ [(e1, (m : Int))]).length ≤ k + 1 := by simp; omega
          have hsz4 : w.heap.size ≤ w4.heap.size := HT4.out.gr.size
          have HFN := Lib.hid (show (F ++ [(e1, (m : Int))]) ++ firstP (l.drop (k + 1)) r2 = firstP l n by rw [List.append_assoc]; exact HF.out)
          clear hown4 hgrow4 hat4 hlt4 HO3 HN3 HB3 hone z0 z1 HTB HBX HNB HF y0 y1 hszb
          obtain ⟨F4, hF4⟩ : ∃ F4, F4 = F ++ [(e1, (m : Int))] := ⟨_, rfl⟩
          rw [← hF4] at HT4 hF1 HFN
          have HF4 := Lib.hid (show F4.length = F.length + 1 by rw [hF4]; simp)
          clear hF4
          obtain ⟨b9, hb9⟩ : ∃ b, wr.heap.size = b := ⟨_, rfl⟩
          rw [hb9] at HX4 HNR ⊢
          clear hb9
          have i4 : IntKind.i64.wrap (e2 - (m : Int)) = e2 - (m : Int) := IntWalk.i64_in _ (by omega)
          have HW := Lib.hid (IntWalk.i64_in (e1 + (m : Int)) (by omega))
          have HCL := Lib.hid (fun (W : World) (g : Gr [] w4 W) => And.intro (show W.cell? ⟨b9, 0, none⟩ = some (.int .i64 e1) from (HX4.out.gr0 g).cell 0) (show W.cell? ⟨b9, 1, none⟩ = some (.int .i64 e2) from (HX4.out.gr0 g).cell 1))
          have hone : ∀ u ∈ [Value.int .i64 (spotP (e1, e2) m), .int .i64 (e2 - (m : Int))], u.oneCell' = true := by simp [Value.oneCell']
          have two_pos : 0 < 2 := by decide
          have small1 : R.length + 1 ≤ maxLen := by unfold maxLen; omega
          have small2 : (R.length + 1) * 16 ≤ 140737488355328 := by omega
          have z0 := HX4.out.cell 0
          have z1 := HX4.out.cell 1
          go_wp2_with fail
          clear z0 z1
          have kc : Gr [] w4 w4.drew := (Gr.refl [] w4).drew
          have sc := HCL.out _ kc
          go_region_held3 (fun w' : World => w'.cell? ⟨b9, 0, none⟩ = some (.int .i64 e1) ∧ w'.cell? ⟨b9, 1, none⟩ = some (.int .i64 e2)) (first | assumption | go_keep) ((first
            | (go_at_call 98; refine (espot_any e1 e2 m _ HW.out).mono ?_; rintro r5 wn ⟨rfl, gn⟩; replace kc := kc.next0 gn; have sc := HCL.out _ kc; clear gn)
            | (have hT3 := (HT4.out.gr0 kc).gr0 ((Gr.refl [] wn).alloc (Obj.cells #[.int .i64 (spotP (e1, e2) m), .int .i64 (e2 - (m : Int))] 35)); have hb3 : w.heap.size ≤ (wn.alloc (Obj.cells #[.int .i64 (spotP (e1, e2) m), .int .i64 (e2 - (m : Int))] 35)).heap.size := hT3.gr.size; have hn3 := World.news_of_block (Holds.new wn #[.int .i64 (spotP (e1, e2) m), .int .i64 (e2 - (m : Int))] 35); refine step_append_lies _ rfl _ _ 82 rfl w.heap.size 35 i0 _ 2 16 Try.underlying82 hi0 hz0 hz1 hz2 rfl two_pos (.slice aR R.length cR) R.length (cells2 R) rfl hT3.r ⟨wn.heap.size, 0, none⟩ 1 1 [.int .i64 (spotP (e1, e2) m), .int .i64 (e2 - (m : Int))] rfl rfl hn3 hone Nat.one_pos small1 small2 hb3 _ rfl ?_; intro g6 cp6 w6 hown6 hgrow6 hat6 hlt6; have hx6 := ((HX4.out.gr0 kc).gr0 ((Gr.refl [] wn).alloc (Obj.cells #[.int .i64 (spotP (e1, e2) m), .int .i64 (e2 - (m : Int))] 35))).gr (gr_grown hgrow6) (fun q => HNR.out (by simpa using q)); have s6a : w6.cell? ⟨b9, 0, none⟩ = some (.int .i64 e1) := hx6.cell 0; have s6b : w6.cell? ⟨b9, 1, none⟩ = some (.int .i64 e2) := hx6.cell 1; have HT6 := Lib.hid (hT3.swap.more (x := (spotP (e1, e2) m, e2 - (m : Int))) hown6 hgrow6 (hat6.imp id (fun q => q.trans rfl))).swap; clear hown6 hgrow6 hat6 hlt6 hT3 hb3 hn3)))
          have hR1 : (R ++ [(spotP (e1, e2) m, e2 - (m : Int))]).length ≤ k + 1 := by simp; omega
          have HRN := Lib.hid (show (R ++ [(spotP (e1, e2) m, e2 - (m : Int))]) ++ restP (l.drop (k + 1)) r2 = restP l n by rw [List.append_assoc]; exact HRR.out)
          go_wp2_with fail
          go_roundw
          case rel => exact ⟨k + 1, r2, _, _, by omega, by go_num, rfl, hr4, hF1, hR1, HFN, HRN, HT6.out⟩
          case measure => simp [intOf]; omega
        · have d1 : decide ((m : Int) < e2) = false := decide_eq_false h1
          rw [if_neg h1] at HRR
          have HN3 := Lib.hid (Holds.new (wr.alloc (Obj.cells #[.int .i64 e1, .int .i64 e2] 35)) #[.int .i64 e1, .int .i64 m] 35)
          rw [World.size_alloc] at HN3
          have HO3 := Lib.hid (HTB.out.gr0 ((Gr.refl [] (wr.alloc (Obj.cells #[.int .i64 e1, .int .i64 e2] 35))).alloc (Obj.cells #[.int .i64 e1, .int .i64 m] 35)))
          have HB3 := Lib.hid (HBX.out.gr0 ((Gr.refl [] (wr.alloc (Obj.cells #[.int .i64 e1, .int .i64 e2] 35))).alloc (Obj.cells #[.int .i64 e1, .int .i64 m] 35)))
          have z0 := HBX.out.cell 0
          have z1 := HBX.out.cell 1
          have hone : ∀ u ∈ [Value.int .i64 e1, .int .i64 (m : Int)], u.oneCell' = true := by simp [Value.oneCell']
          go_wp2_with (at_builtin; refine wpList_append_lies _ rfl _ _ 82 rfl w.heap.size 35 i0 _ 2 16 Try.underlying82 hi0 hz0 hz1 hz2 rfl (by decide) _ _ _ rfl HO3.out.f ⟨wr.heap.size + 1, 0, none⟩ 1 1 [.int .i64 e1, .int .i64 m] rfl rfl (World.news_of_block HN3.out) hone (by decide) (by unfold maxLen; omega) (by omega) (by rw [World.size_alloc]; omega) _ rfl ?_)
          intro g4 cp4 w4 hown4 hgrow4 hat4 hlt4
          have HT4 := Lib.hid (HO3.out.more (x := (e1, (m : Int))) hown4 hgrow4 (hat4.imp id (fun q => by rw [q, World.size_alloc, World.size_alloc])))
          have HX4 := Lib.hid (HB3.out.gr (gr_grown hgrow4) (fun q => HNB.out.1 (by simpa using q)))
          have HNR := Lib.hid HNB.out.2
          have hF1 : (F ++ [(e1, (m : Int))]).length ≤ k + 1 := by simp; omega
          have hsz4 : w.heap.size ≤ w4.heap.size := HT4.out.gr.size
          have HFN := Lib.hid (show (F ++ [(e1, (m : Int))]) ++ firstP (l.drop (k + 1)) r2 = firstP l n by rw [List.append_assoc]; exact HF.out)
          clear hown4 hgrow4 hat4 hlt4 HO3 HN3 HB3 hone z0 z1 HTB HBX HNB HF y0 y1 hszb
          obtain ⟨F4, hF4⟩ : ∃ F4, F4 = F ++ [(e1, (m : Int))] := ⟨_, rfl⟩
          rw [← hF4] at HT4 hF1 HFN
          have HF4 := Lib.hid (show F4.length = F.length + 1 by rw [hF4]; simp)
          clear hF4
          obtain ⟨b9, hb9⟩ : ∃ b, wr.heap.size = b := ⟨_, rfl⟩
          rw [hb9] at HX4 HNR ⊢
          clear hb9
          have z0 := HX4.out.cell 0
          have z1 := HX4.out.cell 1
          have HRN := Lib.hid (show R ++ restP (l.drop (k + 1)) r2 = restP l n from HRR.out)
          go_wp2_with fail
          go_roundw
          case rel => exact ⟨k + 1, r2, _, R, by omega, by go_num, rfl, hr4, hF1, by omega, HFN, HRN, HT4.out⟩
          case measure => simp [intOf]; omega
      · have hm0 : m = 0 := by omega
        rw [if_neg (show ¬ (0 : Int) < (m : Int) by omega)] at HF
        have h1 : (m : Int) < e2 := by omega
        have d1 : decide ((m : Int) < e2) = true := decide_eq_true h1
        rw [if_pos h1] at HRR
        have d0 : decide ((0 : Int) < (m : Int)) = false := decide_eq_false (by omega)
        have d0n : decide (0 < m) = false := decide_eq_false h0
        clear h0 hm0
        have HT4 := Lib.hid HTB.out
        have HX4 := Lib.hid HBX.out
        have HNR := Lib.hid HNB.out.2
        have hF1 : F.length ≤ k + 1 := by omega
        have hsz4 := hszb
        have HFN := Lib.hid (show F ++ firstP (l.drop (k + 1)) r2 = firstP l n from HF.out)
        have z0 := HBX.out.cell 0
        have z1 := HBX.out.cell 1
        go_wp2_with fail
        clear z0 z1 HTB HBX HNB HF y0 y1 hszb
        generalize (wr.alloc (Obj.cells #[.int .i64 e1, .int .i64 e2] 35)) = w4 at *
        obtain ⟨b9, hb9⟩ : ∃ b, wr.heap.size = b := ⟨_, rfl⟩
        rw [hb9] at HX4 HNR ⊢
        clear hb9
        have i4 : IntKind.i64.wrap (e2 - (m : Int)) = e2 - (m : Int) := IntWalk.i64_in _ (by omega)
        have HW := Lib.hid (IntWalk.i64_in (e1 + (m : Int)) (by omega))
        have HCL := Lib.hid (fun (W : World) (g : Gr [] w4 W) => And.intro (show W.cell? ⟨b9, 0, none⟩ = some (.int .i64 e1) from (HX4.out.gr0 g).cell 0) (show W.cell? ⟨b9, 1, none⟩ = some (.int .i64 e2) from (HX4.out.gr0 g).cell 1))
        have hone : ∀ u ∈ [Value.int .i64 (spotP (e1, e2) m), .int .i64 (e2 - (m : Int))], u.oneCell' = true := by simp [Value.oneCell']
        have two_pos : 0 < 2 := by decide
        have small1 : R.length + 1 ≤ maxLen := by unfold maxLen; omega
        have small2 : (R.length + 1) * 16 ≤ 140737488355328 := by omega
        have z0 := HX4.out.cell 0
        have z1 := HX4.out.cell 1
        go_wp2_with fail
        clear z0 z1
        have kc : Gr [] w4 w4.drew := (Gr.refl [] w4).drew
        have sc := HCL.out _ kc
        go_region_held3 (fun w' : World => w'.cell? ⟨b9, 0, none⟩ = some (.int .i64 e1) ∧ w'.cell? ⟨b9, 1, none⟩ = some (.int .i64 e2)) (first | assumption | go_keep) ((first
          | (go_at_call 98; refine (espot_any e1 e2 m _ HW.out).mono ?_; rintro r5 wn ⟨rfl, gn⟩; replace kc := kc.next0 gn; have sc := HCL.out _ kc; clear gn)
          | (have hT3 := (HT4.out.gr0 kc).gr0 ((Gr.refl [] wn).alloc (Obj.cells #[.int .i64 (spotP (e1, e2) m), .int .i64 (e2 - (m : Int))] 35)); have hb3 : w.heap.size ≤ (wn.alloc (Obj.cells #[.int .i64 (spotP (e1, e2) m), .int .i64 (e2 - (m : Int))] 35)).heap.size := hT3.gr.size; have hn3 := World.news_of_block (Holds.new wn #[.int .i64 (spotP (e1, e2) m), .int .i64 (e2 - (m : Int))] 35); refine step_append_lies _ rfl _ _ 82 rfl w.heap.size 35 i0 _ 2 16 Try.underlying82 hi0 hz0 hz1 hz2 rfl two_pos (.slice aR R.length cR) R.length (cells2 R) rfl hT3.r ⟨wn.heap.size, 0, none⟩ 1 1 [.int .i64 (spotP (e1, e2) m), .int .i64 (e2 - (m : Int))] rfl rfl hn3 hone Nat.one_pos small1 small2 hb3 _ rfl ?_; intro g6 cp6 w6 hown6 hgrow6 hat6 hlt6; have hx6 := ((HX4.out.gr0 kc).gr0 ((Gr.refl [] wn).alloc (Obj.cells #[.int .i64 (spotP (e1, e2) m), .int .i64 (e2 - (m : Int))] 35))).gr (gr_grown hgrow6) (fun q => HNR.out (by simpa using q)); have s6a : w6.cell? ⟨b9, 0, none⟩ = some (.int .i64 e1) := hx6.cell 0; have s6b : w6.cell? ⟨b9, 1, none⟩ = some (.int .i64 e2) := hx6.cell 1; have HT6 := Lib.hid (hT3.swap.more (x := (spotP (e1, e2) m, e2 - (m : Int))) hown6 hgrow6 (hat6.imp id (fun q => q.trans rfl))).swap; clear hown6 hgrow6 hat6 hlt6 hT3 hb3 hn3)))
        have hR1 : (R ++ [(spotP (e1, e2) m, e2 - (m : Int))]).length ≤ k + 1 := by simp; omega
        have HRN := Lib.hid (show (R ++ [(spotP (e1, e2) m, e2 - (m : Int))]) ++ restP (l.drop (k + 1)) r2 = restP l n by rw [List.append_assoc]; exact HRR.out)
        go_wp2_with fail
        go_roundw
        case rel => exact ⟨k + 1, r2, _, _, by omega, by go_num, rfl, hr4, hF1, hR1, HFN, HRN, HT6.out⟩
        case measure => simp [intOf]; omega
    · obtain rfl : k = L := by omega
      have hd : l.drop k = [] := by rw [HL.out]; exact List.drop_length
      rw [hd] at HF HRR
      have HFF := Lib.hid (show F = firstP l n by have := HF.out; simpa [firstP] using this)
      have HRF := Lib.hid (show R = restP l n by have := HRR.out; simpa [restP] using this)
      clear hd HF HRR
      go_wp2_with fail
      exact bodyPost_ret (v := .tuple #[.slice aF F.length cF, .slice aR R.length cR]) (by simp [results, Try.results102, go_sem]) rfl ⟨_, _, rfl, by rw [← HFF.out, ← HRF.out]; exact HT.out⟩

end Go.Proofs.Ytpkhfdcokcchdaa

/-
  Layer 15: slices.DeleteFunc, as Cut calls it.
-/
namespace Go.Proofs.Ytpkhfdcokcchdaa
open Go.RowKit

theorem ehole_any (e1 e2 : Int) (w : World) :
    Calls Try.prog 104 #[.agg #[.int .i64 e1, .int .i64 e2]] w fun e w' => e = .returned (.bool (e1 == -1)) ∧ Gr [] w w' := by
  have HG := Lib.hid ((Gr.refl [] w).alloc (Obj.cells #[.int .i64 e1, .int .i64 e2] 35))
  go_enter Try.func104, Try.ntmps104
  go_wp2_with fail
  go_ret
  exact ⟨rfl, HG.out⟩
theorem grT_ofX {w w' : World} {bs : List Nat} (h : Gr [] w w') : Gr bs w w' := h.mono (fun x hx => by simp at hx)
def solidB (e : Int × Int) : Bool := !(e.1 == -1)
set_option maxHeartbeats 1000000 in
theorem eidx_any (l : List (Int × Int)) (L : Nat) (ao : Option Addr) (cap : Nat) (w : World) (h : Rd2 w ao l) (hL : L = l.length) (hL2 : L ≤ 100) :
    Calls Try.prog 117 #[.slice ao L cap, .func (.func 104) #[] #[]] w fun e w' => Gr [] w w' ∧ ((∃ (k : Nat) (e0 : Int × Int), l[k]? = some e0 ∧ solidB e0 = false ∧ (∀ (j : Nat) (e : Int × Int), j < k → l[j]? = some e → solidB e = true) ∧ e = .returned (.int .i64 (k : Nat))) ∨ (∀ (j : Nat) (e : Int × Int), l[j]? = some e → solidB e = true) ∧ e = .returned (.int .i64 (-1))) := by
  have HR := Lib.hid h
  have HL := Lib.hid hL
  clear h hL
  go_enter Try.func117, Try.ntmps117
  go_wp2_with fail
  go_loopw [8] (fun i wr => ∃ k : Nat, k ≤ L ∧ i = .int .i64 k ∧ Gr [] w wr ∧ Hid (∀ j e, j < k → l[j]? = some e → solidB e = true)) (fun i _ => L - (intOf i).toNat)
  case atStart => exact ⟨0, by omega, rfl, Gr.refl _ _, Lib.hid (fun j x hj => by omega)⟩
  case round =>
    obtain ⟨k, hk, rfl, G, HB⟩ := hrel
    have HG := Lib.hid G
    clear G
    by_cases hlt : k < L
    · obtain ⟨⟨e1, e2⟩, he⟩ : ∃ e, l[k]? = some e := ⟨_, List.getElem?_eq_getElem (by have := HL.out; omega)⟩
      obtain ⟨b, o, hao, hb, c1, c2⟩ := HR.out k _ he
      subst hao
      have d1 : wr.cell? ⟨b, o + k * 2, none⟩ = some (.int .i64 e1) := (HG.out.cell0 hb).trans c1
      have d2 : wr.cell? ⟨b, o + k * 2 + 1, none⟩ = some (.int .i64 e2) := (HG.out.cell0 hb).trans c2
      have HE := Lib.hid he
      have hkL2 : (k : Int) < (L : Int) := by omega
      clear c1 c2 he
      cases q : (e1 == -1) with
      | true =>
        have HC := Lib.hid (ehole_any e1 e2 wr)
        rw [q] at HC
        have HS := Lib.hid (show solidB (e1, e2) = false by unfold solidB; simp only; rw [q]; rfl)
        clear q
        go_wp2_with fail
        refine HC.out.mono ?_
        rintro e' w' ⟨rfl, g⟩
        have HG2 := Lib.hid (HG.out.next0 g)
        clear g
        go_wp2_with fail
        go_ret
        exact ⟨HG2.out, .inl ⟨k, _, HE.out, HS.out, HB.out, rfl⟩⟩
      | false =>
        have HC := Lib.hid (ehole_any e1 e2 wr)
        rw [q] at HC
        have HF := Lib.hid (show ∀ j e, j < k + 1 → l[j]? = some e → solidB e = true from fun j e hj hx => by
          by_cases z : j = k
          · subst z
            rw [HE.out] at hx
            injection hx with hx
            subst hx
            unfold solidB; simp only; rw [q]; rfl
          · exact HB.out j e (by omega) hx)
        clear q
        go_wp2_with fail
        refine HC.out.mono ?_
        rintro e' w' ⟨rfl, g⟩
        have HG2 := Lib.hid (HG.out.next0 g)
        clear g
        go_wp2
        go_roundw
        case rel => exact ⟨k + 1, by omega, by go_num, HG2.out, HF⟩
        case measure => simp [intOf]; omega
    · obtain rfl : k = L := by omega
      have HF := Lib.hid (show ∀ j e, l[j]? = some e → solidB e = true from fun j e hx => HB.out j e (by have := (List.getElem?_eq_some_iff.1 hx).1; have := HL.out; omega) hx)
      go_wp2_with fail
      go_ret
      exact ⟨HG.out, .inr ⟨HF.out, rfl⟩⟩

/-! ### A row's first part -/
theorem own_prefix {w : World} {base : Nat} {e : TypeId} {g n cap i : Nat} {xs : List Value} (h : w.ownsRow base e 2 (.slice (some ⟨g, 0, none⟩) n cap) n xs) (hi : i ≤ n) : w.ownsRow base e 2 (.slice (some ⟨g, 0, none⟩) i cap) i (xs.take (i * 2)) := by
  rcases h.2 with ⟨q, _⟩ | ⟨g', cap', cur, q, hb, hg, h1, h2, h3, h4⟩
  · cases q
  · injection q with q1 q2 q3
    injection q1 with q1
    injection q1 with q1
    subst q1 q3
    have hl := h.1
    refine ⟨by rw [List.length_take]; omega, .inr ⟨g, cap, cur, rfl, hb, hg, by omega, h2, h3, ?_⟩⟩
    rw [← h4, List.take_take, show min (i * 2) (n * 2) = i * 2 by omega]
theorem own_capX {w : World} {base : Nat} {e : TypeId} {g n cap : Nat} {xs : List Value} (h : w.ownsRow base e 2 (.slice (some ⟨g, 0, none⟩) n cap) n xs) : n ≤ cap := by
  rcases h.2 with ⟨q, _⟩ | ⟨g', cap', cur, q, hb, hg, h1, h2, h3, h4⟩
  · cases q
  · injection q with q1 q2 q3
    subst q3
    exact h1
theorem own_hi {base : Nat} {e : TypeId} {g n cap : Nat} {xs : List Value} (vs : List Value) : ∀ (o : Nat) (w : World), n * 2 ≤ o → w.ownsRow base e 2 (.slice (some ⟨g, 0, none⟩) n cap) n xs → (w.setCells g o vs).ownsRow base e 2 (.slice (some ⟨g, 0, none⟩) n cap) n xs := by
  induction vs with
  | nil => intro o w _ h; exact h
  | cons v r ih =>
    intro o w ho h
    refine ih (o + 1) _ (by omega) ?_
    have := (h.stored o v).1
    rw [List.set_eq_of_length_le (by have := h.1; omega)] at this
    exact this
theorem gr_setCells {g : Nat} {w0 : World} (vs : List Value) : ∀ (o : Nat) (w : World), Gr [g] w0 w → Gr [g] w0 (w.setCells g o vs) := by
  induction vs with
  | nil => intro o w h; exact h
  | cons v r ih =>
    intro o w h
    exact ih (o + 1) _ (h.setCell (p := ⟨g, o, none⟩) (.inl (by simp)) _)
theorem zeroE : ∀ w, (zeroValue 35).run Try.prog w = .ok (.agg #[.int .i64 0, .int .i64 0]) w := Try.zeroValue35
theorem run_clear2 (w : World) (ty : TypeId) (b o n c : Nat) (hn : 0 < n)
    (hc : ∀ j, j < n * 2 → (w.cell? ⟨b, o + j, none⟩).isSome = true) (hf : ∀ j, j < n * 2 → w.frozen? ⟨b, o + j, none⟩ = false) :
    (Builtin.clear_ #[82] ty #[.slice (some ⟨b, o, none⟩) n c]).run Try.prog w = .ok (.tuple #[]) (w.setCells b o (List.replicate (n * 2) (.int .i64 0))) := by
  have hzc : (Builtin.zeroCells (Value.cells (.agg #[.int .i64 0, .int .i64 0])) n).toList = List.replicate (n * 2) (.int .i64 0) := by
    simp [Builtin.zeroCells, Value.cells]
    apply List.ext_getElem
    · simp
    · intro i h1 h2
      simp
      rcases Nat.mod_two_eq_zero_or_one i with q | q <;> simp [q]
  have hst := run_storeCells_cells (P := Try.prog) b o (List.replicate (n * 2) (.int .i64 0)) 0 w (by simpa using hc) (by simpa using hf) (by intro v hv'; rw [List.eq_of_mem_replicate hv']; rfl)
  simp only [Nat.add_zero] at hst
  obtain ⟨m, rfl⟩ : ∃ m, n = m + 1 := ⟨n - 1, by omega⟩
  simp [Builtin.clear_, run_underlying Try.underlying82, hzc, hst]
theorem cells2_set (X : List (Int × Int)) (i : Nat) (e : Int × Int) (hi : i < X.length) : ((cells2 X).set (i * 2) (.int .i64 e.1)).set (i * 2 + 1) (.int .i64 e.2) = cells2 (X.set i e) := by
  induction X generalizing i with
  | nil => simp at hi
  | cons x r ih =>
    cases i with
    | zero => rfl
    | succ i =>
      have := ih i (by simpa using hi)
      rw [show (i + 1) * 2 = i * 2 + 2 by omega, show i * 2 + 2 + 1 = i * 2 + 1 + 2 by omega]
      rw [cells2_cons, List.set_cons_succ, List.set_cons_succ, List.set_cons_succ, List.set_cons_succ, this]
      rfl

set_option maxHeartbeats 4000000 in
set_option maxRecDepth 20000 in
theorem edelete_any (l : List (Int × Int)) (L base : Nat) (v : Value) (w : World) (h : w.ownsRow base 35 2 v L (cells2 l)) (hL2 : L ≤ 100) :
    Calls Try.prog 103 #[v, .func (.func 104) #[] #[]] w fun e w' => ∃ v', e = .returned v' ∧ w'.ownsRow base 35 2 v' (l.filter solidB).length (cells2 (l.filter solidB)) ∧ Gr v.ownBlock.toList w w' := by
  have hL : L = l.length := by have := h.1; rw [cells2_len] at this; omega
  obtain ⟨ao, cap, hv⟩ := own_form h
  subst hv
  have hrd := own_sl2 h
  have HC := Lib.hid (eidx_any l L ao cap w (by obtain ⟨a, c, hq, hr, -⟩ := hrd; injection hq with q1 _ _; subst q1; exact hr) hL hL2)
  have HO := Lib.hid h
  have HL := Lib.hid hL
  clear h hL hrd
  go_enter Try.func103, Try.ntmps103
  go_wp2_with fail
  refine HC.out.mono ?_
  rintro e w1 ⟨g1, ⟨k0, e0, hk0, hs0, hall, rfl⟩ | ⟨hall, rfl⟩⟩
  · have hk0L : k0 < L := by have := (List.getElem?_eq_some_iff.1 hk0).1; have := HL.out; omega
    obtain ⟨g, cp, hgv, hgb, hgl⟩ := HO.out.form (by omega)
    injection hgv with q1 q2 q3
    subst q1 q3
    have H1 := Lib.hid (And.intro (own_gr0 HO.out g1) (grT_ofX (bs := [g]) g1))
    have HFI := Lib.hid (show (l.take k0) = (l.take (k0 + 1)).filter solidB by
      obtain ⟨a, b⟩ := List.getElem?_eq_some_iff.1 hk0
      rw [List.take_succ_eq_append_getElem a, b, List.filter_append]
      rw [show [e0].filter solidB = [] by simp [hs0], List.append_nil]
      refine (List.filter_eq_self.2 fun x hx => ?_).symm
      obtain ⟨j, hj⟩ := List.mem_iff_getElem?.1 hx
      have hjk : j < k0 := by have := (List.getElem?_eq_some_iff.1 hj).1; simp at this; omega
      rw [List.getElem?_take_of_lt hjk] at hj
      exact hall j x hjk hj)
    have dk : ((k0 : Int) == -1) = false := by simp
    have dk2 : decide ((k0 : Int) = -1) = false := by simp
    clear hall g1 hk0 hs0 HC q2
    go_wp2_with fail
    clear dk dk2
    go_loopw [5, 6] (fun iv jv wr => ∃ (i j : Nat) (X : List (Int × Int)), j ≤ L ∧ i < j ∧ iv = .int .i64 i ∧ jv = .int .i64 j ∧ X.length = L ∧ Hid (X.take i = (l.take j).filter solidB) ∧ Hid (X.drop j = l.drop j) ∧ wr.ownsRow base 35 2 (.slice (some ⟨g, 0, none⟩) L cap) L (cells2 X) ∧ Gr [g] w wr) (fun _ jv _ => L - (intOf jv).toNat)
    case atStart => exact ⟨k0, k0 + 1, l, by omega, by omega, rfl, by go_num, HL.out.symm, HFI, Lib.hid rfl, H1.out.1, H1.out.2⟩
    case round =>
      clear H1
      obtain ⟨i, j, X, hj, hij, rfl, rfl, hXl, HX1, HX2, ho, G⟩ := hrel
      have HQ := Lib.hid (And.intro ho G)
      have hgw : g < wr.heap.size := (ho.lt g rfl).2
      clear ho G
      by_cases hjL : j < L
      · have hjL2 : (j : Int) < (L : Int) := by omega
        obtain ⟨⟨e1, e2⟩, he⟩ : ∃ e, X[j]? = some e := ⟨_, List.getElem?_eq_getElem (by omega)⟩
        have hel : l[j]? = some (e1, e2) := by
          have : (X.drop j)[0]? = (l.drop j)[0]? := by rw [HX2.out]
          rw [List.getElem?_drop, List.getElem?_drop, Nat.add_zero, he] at this
          exact this.symm
        obtain ⟨q0, q1⟩ := cells2_get X j _ he
        have y0 : wr.cell? ⟨g, j * 2, none⟩ = some (.int .i64 e1) := by rw [HQ.out.1.cellAt _ (by omega)]; exact q0
        have y1 : wr.cell? ⟨g, j * 2 + 1, none⟩ = some (.int .i64 e2) := by rw [HQ.out.1.cellAt _ (by omega)]; exact q1
        have HBX := Lib.hid (Holds.new wr #[.int .i64 e1, .int .i64 e2] 35)
        have HOA := Lib.hid (HQ.out.1.alloc (Obj.cells #[.int .i64 e1, .int .i64 e2] 35))
        have HGA := Lib.hid (HQ.out.2.alloc (Obj.cells #[.int .i64 e1, .int .i64 e2] 35))
        have HFS := Lib.hid (show (l.take (j + 1)).filter solidB = (l.take j).filter solidB ++ (if solidB (e1, e2) = true then [(e1, e2)] else []) by
          obtain ⟨a, b⟩ := List.getElem?_eq_some_iff.1 hel
          rw [List.take_succ_eq_append_getElem a, b, List.filter_append]
          congr 1
          by_cases z : solidB (e1, e2) = true <;> simp [z])
        have HDR := Lib.hid (show X.drop (j + 1) = l.drop (j + 1) by rw [← List.drop_drop, ← List.drop_drop, HX2.out])
        have HC := Lib.hid (fun W => ehole_any e1 e2 W)
        have hbne : wr.heap.size ≠ g := by omega
        have z0 := HBX.out.cell 0
        have z1 := HBX.out.cell 1
        clear q0 q1 he hel
        cases q : (e1 == -1) with
        | true =>
          rw [q] at HC
          have hs : solidB (e1, e2) = false := by unfold solidB; simp only; rw [q]; rfl
          rw [if_neg (by rw [hs]; simp), List.append_nil] at HFS
          clear q hs
          go_wp2_with fail
          refine (HC.out _).mono ?_
          rintro e' w6 ⟨rfl, g6⟩
          have H6 := Lib.hid (And.intro (own_gr0 HOA.out g6) (HGA.out.next0 g6))
          clear g6 z0 z1 y0 y1
          go_wp2_with fail
          go_roundw
          case rel => exact ⟨i, j + 1, X, by omega, by omega, rfl, by go_num, hXl, Lib.hid (by rw [HFS.out]; exact HX1.out), HDR, H6.out.1, H6.out.2⟩
          case measure => simp [intOf]; omega
        | false =>
          rw [q] at HC
          have hs : solidB (e1, e2) = true := by unfold solidB; simp only; rw [q]; rfl
          rw [if_pos hs] at HFS
          clear q hs
          go_wp2_with fail
          refine (HC.out _).mono ?_
          rintro e' w6 ⟨rfl, g6⟩
          have H6 := Lib.hid (And.intro (own_gr0 HOA.out g6) (HGA.out.next0 g6))
          have HB6 := Lib.hid (HBX.out.gr0 g6)
          clear g6 z0 z1 y0 y1
          obtain ⟨⟨x1, x2⟩, hxi⟩ : ∃ e, X[i]? = some e := ⟨_, List.getElem?_eq_getElem (by omega)⟩
          obtain ⟨q0, q1⟩ := cells2_get X i _ hxi
          have u0 : w6.cell? ⟨g, i * 2, none⟩ = some (.int .i64 x1) := by rw [H6.out.1.cellAt _ (by omega)]; exact q0
          have u1 : w6.cell? ⟨g, i * 2 + 1, none⟩ = some (.int .i64 x2) := by rw [H6.out.1.cellAt _ (by omega)]; exact q1
          have f0 : w6.frozen? ⟨g, i * 2, none⟩ = false := H6.out.1.frozenAt _
          have f1 : w6.frozen? ⟨g, i * 2 + 1, none⟩ = false := H6.out.1.frozenAt _
          have z0 := HB6.out.cell 0
          have z1 := HB6.out.cell 1
          have hiL : (i : Int) < (L : Int) := by omega
          have HUP := Lib.hid (show ((w6.setCell ⟨g, i * 2, none⟩ (.int .i64 e1)).setCell ⟨g, i * 2 + 1, none⟩ (.int .i64 e2)).ownsRow base 35 2 (.slice (some ⟨g, 0, none⟩) L cap) L (cells2 (X.set i (e1, e2))) ∧ Gr [g] w ((w6.setCell ⟨g, i * 2, none⟩ (.int .i64 e1)).setCell ⟨g, i * 2 + 1, none⟩ (.int .i64 e2)) from by
            have s1 := (H6.out.1.stored (i * 2) (.int .i64 e1)).1
            have s2 := (s1.stored (i * 2 + 1) (.int .i64 e2)).1
            have hcs := cells2_set X i (e1, e2) (by omega)
            simp only at hcs
            rw [hcs] at s2
            exact ⟨s2, (H6.out.2.setCell (p := ⟨g, i * 2, none⟩) (.inl (by simp)) _).setCell (p := ⟨g, i * 2 + 1, none⟩) (.inl (by simp)) _⟩)
          have HT2 := Lib.hid (show (X.set i (e1, e2)).take (i + 1) = (l.take (j + 1)).filter solidB by
            rw [HFS.out, ← HX1.out]
            have hlt : i < (X.set i (e1, e2)).length := by rw [List.length_set]; omega
            rw [List.take_succ_eq_append_getElem hlt]
            congr 1
            · rw [List.take_set_of_le (by omega)]
            · simp)
          have HD2 := Lib.hid (show (X.set i (e1, e2)).drop (j + 1) = l.drop (j + 1) by
            rw [List.drop_set_of_lt (by omega)]; exact HDR.out)
          clear hxi q0 q1
          go_wp2_with fail
          go_roundw
          case rel => exact ⟨i + 1, j + 1, X.set i (e1, e2), by omega, by omega, by go_num, by go_num, by rw [List.length_set]; exact hXl, HT2, HD2, HUP.out.1, HUP.out.2⟩
          case measure => simp [intOf]; omega
      · obtain rfl : j = L := by omega
        have hnk : ((j : Int) - (i : Int)) = ((j - i : Nat) : Int) := by omega
        have HCL := Lib.hid (run_clear2 wr · g (i * 2) (j - i) (cap - i) (by omega) (fun q hq => by
          rw [HQ.out.1.cellAt _ (by omega)]
          rw [List.getElem?_eq_getElem (by rw [cells2_len]; omega)]; rfl) (fun q hq => HQ.out.1.frozenAt _))
        have hcl := HCL.out
        have hcapj : j ≤ cap := own_capX HQ.out.1
        have HFIN := Lib.hid (show (wr.setCells g (i * 2) (List.replicate ((j - i) * 2) (.int .i64 0))).ownsRow base 35 2 (.slice (some ⟨g, 0, none⟩) i cap) i (cells2 (l.filter solidB)) ∧ Gr [g] w (wr.setCells g (i * 2) (List.replicate ((j - i) * 2) (.int .i64 0))) from by
          have hp := own_hi (List.replicate ((j - i) * 2) (.int .i64 0)) (i * 2) wr (Nat.le_refl _) (own_prefix HQ.out.1 (Nat.le_of_lt hij))
          refine ⟨?_, gr_setCells _ _ _ HQ.out.2⟩
          have e1 : (cells2 X).take (i * 2) = cells2 (l.filter solidB) := by
            have hx := HX1.out
            rw [show l.take j = l by rw [HL.out]; exact List.take_length] at hx
            rw [← hx]
            have : cells2 X = cells2 (X.take i) ++ cells2 (X.drop i) := by rw [← cells2_append, List.take_append_drop]
            rw [this, List.take_left' (by rw [cells2_len, List.length_take]; omega)]
          rw [e1] at hp
          exact hp)
        have hlen : (l.filter solidB).length = i := by
          have hx := HX1.out
          rw [show l.take j = l by rw [HL.out]; exact List.take_length] at hx
          rw [← hx, List.length_take]; omega
        have HLE := Lib.hid hlen
        clear hlen
        go_wp2_with fail
        go_ret
        exact ⟨_, rfl, by rw [HLE.out]; exact HFIN.out.1, HFIN.out.2⟩
  · have HF := Lib.hid (show l.filter solidB = l from List.filter_eq_self.2 fun x hx => by
      obtain ⟨j, hj⟩ := List.mem_iff_getElem?.1 hx
      exact hall j x hj)
    have H1 := Lib.hid (And.intro (own_gr0 HO.out g1) g1)
    clear hall g1 HC
    go_wp2_with fail
    go_ret
    exact ⟨_, rfl, by rw [HF.out, ← HL.out]; exact H1.out.1, grT_ofX H1.out.2⟩

end Go.Proofs.Ytpkhfdcokcchdaa

/-
  Layer 15: Cut and Fill.
-/
namespace Go.Proofs.Ytpkhfdcokcchdaa
open Go.RowKit

theorem own_parts {w : World} {base : Nat} {e : TypeId} {v : Value} {l : List (Int × Int)} (h : w.ownsRow base e 2 v l.length (cells2 l)) : ∃ ao cap, v = .slice ao l.length cap ∧ Rd2 w ao l ∧ l.length ≤ cap ∧ (ao = none → cap = 0) := by
  obtain ⟨ao, cap, h1, h2, h3, _, h5⟩ := own_sl2 h
  exact ⟨ao, cap, h1, h2, h3, h5⟩
theorem Right15.all {l : List (Int × Int)} (h : Right15 l) : ∀ e ∈ l, -1 ≤ e.1 ∧ e.1 ≤ 65536 ∧ 1 ≤ e.2 ∧ e.2 ≤ 65536 := (okK_all h.2.1).1
theorem Right15.apart {l : List (Int × Int)} (h : Right15 l) : apartP l = true := (okK_all h.2.1).2

set_option maxHeartbeats 2000000 in
theorem ecut_yes (l : List (Int × Int)) (L n : Nat) (ao : Option Addr) (cap : Nat) (w : World) (h : Sl2 w (.slice ao L cap) l) (hr : Right15 l) (hn : (n : Int) ≤ sumZ l) :
    Calls Try.prog 57 #[.slice ao L cap, .int .i64 n] w fun e w' => ∃ vF vR, e = .returned (.tuple #[vF, vR, .int .i64 0]) ∧ Sl2 w' vF (firstP l n) ∧ Sl2 w' vR ((restP l n).filter solidB) ∧ Gr [] w w' := by
  obtain ⟨hL, hrd, hcap, hmx, hnn⟩ := sl2_parts h
  have HR := Lib.hid hrd
  have HL := Lib.hid hL
  have HT := Lib.hid hr
  have HN := Lib.hid hn
  have HC := Lib.hid (eright_yes l L ao cap w hrd hL hr)
  obtain ⟨s, hs⟩ : ∃ s, s = sumZ l := ⟨_, rfl⟩
  have HS := Lib.hid hs
  have hs2 : s ≤ 65536 := by rw [hs]; exact hr.2.2
  rw [← hs] at hn
  have hgt : ¬ (s < (n : Int)) := by omega
  have d1 : decide ((n : Int) < 0) = false := decide_eq_false (by omega)
  clear h hrd hcap hmx hnn hL hr hs
  go_enter Try.func57, Try.ntmps57
  go_wp2_with fail
  refine HC.out.mono ?_
  rintro e w1 ⟨rfl, g1⟩
  have H1 := Lib.hid g1
  clear g1 HC
  go_wp2_with fail
  refine (eblocks_any l L s ao cap w1 (HR.out.gr0 H1.out) HL.out HT.out.small HS.out).mono ?_
  rintro e w2 ⟨rfl, g2⟩
  have H2 := Lib.hid (H1.out.next0 g2)
  clear g2 H1
  go_wp2_with fail
  refine (esplit_any l L n ao cap w2 (HR.out.gr0 H2.out) HL.out (by have := HT.out.1; have := HL.out; omega) (fun e he => by have := HT.out.all e he; omega) (by omega)).mono ?_
  rintro e w3 ⟨vF, vR, rfl, T⟩
  have HTW := Lib.hid T
  have HSP := Lib.hid (split_ok (n := (n : Int)) (B := 65536) (by omega) HT.out.all HT.out.apart)
  clear T d1 hgt
  go_wp2_with fail
  refine (edelete_any (restP l n) (restP l n).length w2.heap.size vR w3 HTW.out.r (by have := HSP.out.2.2.2.2.2.1; have := HT.out.1; omega)).mono ?_
  rintro e w4 ⟨vR', rfl, ho, g4⟩
  have HOF := Lib.hid (own_sl2 (own_gr HTW.out.f g4 (fun b hb hm => HTW.out.ne b hb (by simpa using hm))))
  have HOR := Lib.hid (own_sl2 ho)
  have HG := Lib.hid (H2.out.next0 (HTW.out.gr.nextN g4 (fun y hy => .inr (HTW.out.r.lt y (by simpa using hy)).1)))
  clear ho g4
  go_wp2_with fail
  exact bodyPost_ret (v := .tuple #[vF, vR', .int .i64 0]) (by simp [results, Try.results57, go_sem]) rfl ⟨vF, vR', rfl, HOF.out, HOR.out, HG.out⟩

def fillP (l : List (Int × Int)) (i n : Nat) (a : Int) : List (Int × Int) := firstP l i ++ [(a, (n : Int))] ++ restP (restP l i) n
set_option maxHeartbeats 4000000 in
set_option maxRecDepth 20000 in
theorem efill_ok (l : List (Int × Int)) (L i n : Nat) (a : Int) (ao : Option Addr) (cap : Nat) (w : World) (h : Sl2 w (.slice ao L cap) l) (hr : Right15 l) (ha : 0 ≤ a) (ha2 : a ≤ 9223372036854775807) (hn1 : 1 ≤ n) (hn : (i : Int) + n ≤ sumZ l) :
    Calls Try.prog 55 #[.slice ao L cap, .int .i64 i, .agg #[.int .i64 a, .int .i64 n]] w fun e w' => Gr [] w w' ∧
      ((0 < heldZ (firstP (restP l i) n) ∧ e = .returned (.tuple #[.slice none 0 0, .int .i64 2])) ∨
       (heldZ (firstP (restP l i) n) ≤ 0 ∧ ¬ Right15 (joinP (fillP l i n a)) ∧ e = .returned (.tuple #[.slice none 0 0, .int .i64 7])) ∨
       (heldZ (firstP (restP l i) n) ≤ 0 ∧ Right15 (joinP (fillP l i n a)) ∧ ∃ ao' cap', e = .returned (.tuple #[.slice ao' (joinP (fillP l i n a)).length cap', .int .i64 0]) ∧ Sl2 w' (.slice ao' (joinP (fillP l i n a)).length cap') (joinP (fillP l i n a)))) := by
  obtain ⟨hL, hrd, hcap, hmx, hnn⟩ := sl2_parts h
  have HR := Lib.hid hrd
  have HL := Lib.hid hL
  have HT := Lib.hid hr
  obtain ⟨s, hs⟩ : ∃ s, s = sumZ l := ⟨_, rfl⟩
  have HS := Lib.hid hs
  have hs2 : s ≤ 65536 := by rw [hs]; exact hr.2.2
  rw [← hs] at hn
  have HSP := Lib.hid (split_ok (n := (i : Int)) (B := 65536) (by omega) HT.out.all HT.out.apart)
  have HSQ := Lib.hid (split_ok (n := (n : Int)) (B := 131072) (by omega) HSP.out.2.1 HSP.out.2.2.2.1)
  have HBX := Lib.hid (Holds.new w #[.int .i64 a, .int .i64 n] 35)
  have HG0 := Lib.hid ((Gr.refl [] w).alloc (Obj.cells #[.int .i64 a, .int .i64 n] 35))
  clear h hrd hcap hmx hnn hL hr hs
  go_enter Try.func55, Try.ntmps55
  go_wp2_with fail
  have k0 := kp_cell (HBX.out.cell 0)
  have k1 := kp_cell (HBX.out.cell 1)
  generalize w.alloc (Obj.cells #[.int .i64 a, .int .i64 n] 35) = w1 at *
  obtain ⟨b0, hb0⟩ : ∃ b, w.heap.size = b := ⟨_, rfl⟩
  rw [hb0] at HBX k0 k1 ⊢
  clear hb0
  have hne := kp_ne w1
  have P1 := Lib.hid (fun x : Cls (Kp w1) => kcall_of (eright_yes l L ao cap x.w (HR.out.gr0 (HG0.out.nextB x.h)) HL.out HT.out))
  have P2 := Lib.hid (fun x : Cls (Kp w1) => kcall_of (eblocks_any l L s ao cap x.w (HR.out.gr0 (HG0.out.nextB x.h)) HL.out HT.out.small HS.out))
  have d0 : ¬ a < 0 := by omega
  have d1 : ¬ (n : Int) < 1 := by omega
  have d2 : ¬ s < (n : Int) := by omega
  have d3 : IntKind.i64.wrap (s - (n : Int)) = s - (n : Int) := IntWalk.i64_in _ (by omega)
  have d4 : ¬ s - (n : Int) < (i : Int) := by omega
  have d5 : decide ((i : Int) < 0) = false := decide_eq_false (by omega)
  refine wp_region_kp (by kernel_rfl) (by kernel_rfl) ?_
  repeat (go_big_quiet_step ((rename_i x; first
    | (with_reducible exact kp_call x (P1.out x))
    | (with_reducible exact kp_call x (P2.out x)))))
  with_reducible refine wpQuiet_nil ?_
  rintro _ ⟨y, rfl⟩
  have H1 := Lib.hid (And.intro (HBX.out.gr0 ((Gr.refl [] w1).nextB y.h)) (HG0.out.nextB y.h))
  clear k0 k1 hne P1 P2 HBX HG0
  generalize y.w = w2 at *
  clear y
  go_wp2_with fail
  refine (esplit_any l L i ao cap w2 (HR.out.gr0 H1.out.2) HL.out (by have := HT.out.1; have := HL.out; omega) (fun e he => by have := HT.out.all e he; omega) (by omega)).mono ?_
  rintro e w3 ⟨vF, vR, rfl, T⟩
  have HTW := Lib.hid T
  have H3 := Lib.hid (And.intro (H1.out.1.gr0 T.gr) (H1.out.2.next0 T.gr))
  obtain ⟨aR, cR, hvR, hrR, -, -⟩ := own_parts T.r
  subst hvR
  have HRR := Lib.hid hrR
  have c1 := H3.out.1.cell 1
  clear T H1 hrR d0 d1 d2 d3 d4 d5
  go_wp2_with fail
  refine (esplit_any (restP l i) (restP l i).length n aR cR w3 HRR.out rfl (by have := HT.out.1; have := HSP.out.2.2.2.2.2.1; omega) (fun e he => by have := HSP.out.2.1 e he; omega) (by omega)).mono ?_
  rintro e w4 ⟨vH, vT, rfl, T⟩
  have HT2 := Lib.hid T
  obtain ⟨aF, cF, hvF, hrF, hcF, hnF⟩ := own_parts (own_gr0 HTW.out.f T.gr)
  subst hvF
  obtain ⟨aT, cT, hvT, hrT, hcT, hnT⟩ := own_parts T.r
  subst hvT
  obtain ⟨aH, cH, hvH, hrH, -, -⟩ := own_parts T.f
  subst hvH
  have H4 := Lib.hid (And.intro (H3.out.1.gr0 T.gr) (H3.out.2.next0 T.gr))
  have HRF := Lib.hid (And.intro hrF (And.intro hcF hnF))
  have HRT := Lib.hid (And.intro hrT (And.intro hcT hnT))
  have HRH := Lib.hid hrH
  clear T hrF hcF hnF hrT hcT hnT hrH H3 c1 HTW HRR
  obtain ⟨hz, hhz⟩ : ∃ z, z = heldZ (firstP (restP l i) n) := ⟨_, rfl⟩
  have HHZ := Lib.hid hhz
  clear hhz
  go_wp2_with fail
  refine (eheld_any (firstP (restP l i) n) (firstP (restP l i) n).length hz aH cH w4 HRH.out rfl ⟨by have := HT.out.1; have := HSP.out.2.2.2.2.2.1; have := HSQ.out.2.2.2.2.1; omega, fun e he => by have := HSQ.out.1 e he; omega⟩ HHZ.out).mono ?_
  rintro e w5 ⟨rfl, g5⟩
  have H5 := Lib.hid (And.intro (H4.out.1.gr0 g5) (H4.out.2.next0 g5))
  have HRF5 := Lib.hid (HRF.out.1.gr0 g5)
  have HRT5 := Lib.hid (HRT.out.1.gr0 g5)
  clear g5
  by_cases hpos : 0 < hz
  · go_wp2_with fail
    exact bodyPost_ret (v := .tuple #[.slice none 0 0, .int .i64 2]) (by simp [results, Try.results55, go_sem]) rfl ⟨H5.out.2, .inl ⟨by rw [← HHZ.out]; exact hpos, rfl⟩⟩
  · have HNP := Lib.hid (show heldZ (firstP (restP l i) n) ≤ 0 by rw [← HHZ.out]; omega)
    have c0 := H5.out.1.cell 0
    have c1 := H5.out.1.cell 1
    have HY := Lib.hid (holds_rd_one (Holds.new w5 #[.int .i64 a, .int .i64 n] 35))
    have HGX := Lib.hid (Gr.refl [] w5 |>.alloc (Obj.cells #[.int .i64 a, .int .i64 n] 35))
    have HG6 := Lib.hid (H5.out.2.alloc (Obj.cells #[.int .i64 a, .int .i64 n] 35))
    generalize hw6 : w5.alloc (Obj.cells #[.int .i64 a, .int .i64 n] 35) = w6 at *
    obtain ⟨b1, hb1⟩ : ∃ b, w5.heap.size = b := ⟨_, rfl⟩
    rw [hb1] at HY
    have HCAT := Lib.hid (show CatIn [(aF, cF, firstP l i), (some ⟨b1, 0, none⟩, 1, [(a, (n : Int))]), (aT, cT, restP (restP l i) n)] w6.heap.size (w6.alloc (Obj.cells #[.slice aF (firstP l i).length cF, .slice (some ⟨b1, 0, none⟩) 1 1, .slice aT (restP (restP l i) n).length cT] 82)) from by
      have gx := (Gr.refl [] w6).alloc (Obj.cells #[.slice aF (firstP l i).length cF, .slice (some ⟨b1, 0, none⟩) 1 1, .slice aT (restP (restP l i) n).length cT] 82)
      have X := Holds.new w6 #[.slice aF (firstP l i).length cF, .slice (some ⟨b1, 0, none⟩) 1 1, .slice aT (restP (restP l i) n).length cT] 82
      refine ⟨fun i x hx => ?_, X.lt, fun x hx => ?_, fun x hx => ?_⟩
      · match i, hx with
        | 0, hx => simp at hx; subst hx; exact X.cell 0
        | 1, hx => simp at hx; subst hx; exact X.cell 1
        | 2, hx => simp at hx; subst hx; exact X.cell 2
        | i + 3, hx => simp at hx
      · simp only [List.mem_cons, List.not_mem_nil, or_false] at hx
        rcases hx with rfl | rfl | rfl
        · exact (HRF5.out.gr0 HGX.out).gr0 gx
        · exact HY.out.gr0 gx
        · exact (HRT5.out.gr0 HGX.out).gr0 gx
      · simp only [List.mem_cons, List.not_mem_nil, or_false] at hx
        rcases hx with rfl | rfl | rfl
        · exact HRF.out.2
        · exact ⟨Nat.le_refl _, fun e => by cases e⟩
        · exact HRT.out.2)
    have HGC := Lib.hid (HG6.out.alloc (Obj.cells #[.slice aF (firstP l i).length cF, .slice (some ⟨b1, 0, none⟩) 1 1, .slice aT (restP (restP l i) n).length cT] 82))
    have hall : ∀ e ∈ fillP l i n a, -1 ≤ e.1 ∧ e.1 ≤ 9223372036854775807 ∧ 1 ≤ e.2 ∧ e.2 ≤ 65536 := by
      intro e hm
      unfold fillP at hm
      rcases List.mem_append.1 hm with q | q
      · rcases List.mem_append.1 q with q | q
        · have := HSP.out.1 e q; omega
        · simp at q; subst q; simp only; omega
      · have := HSQ.out.2.1 e q; omega
    have HJ := Lib.hid (ejoin_any _ (fillP l i n a) _ 3 _ (by simp [catP, fillP]) HCAT.out (by simp) (by have := HT.out.1; have := HSP.out.2.2.2.2; have := HSQ.out.2.2.2.2; simp [fillP]; omega) hall)
    obtain ⟨RL, hRL⟩ : ∃ RL, RL = joinP (fillP l i n a) := ⟨_, rfl⟩
    rw [← hRL] at HJ
    have HRL := Lib.hid hRL
    clear hall hRL
    subst hw6
    rw [World.size_alloc, hb1] at HJ
    go_wp2_with fail
    refine HJ.out.mono ?_
    rintro e w7 ⟨ao', cap', rfl, ho7, g7⟩
    have H7 := Lib.hid (And.intro (HGC.out.next0 g7) (own_sl2 ho7))
    clear ho7 g7 HJ HCAT HGC HG6 HGX HY c0 c1
    go_wp2_with fail
    refine (evalid_any RL RL.length ao' cap' w7 (sl2_parts H7.out.2).2.1 rfl).mono ?_
    rintro e w8 ⟨g8, ⟨hno, rfl⟩ | ⟨hyes, rfl⟩⟩
    · have H8 := Lib.hid (H7.out.1.next0 g8)
      clear g8
      go_wp2_with fail
      exact bodyPost_ret (v := .tuple #[.slice none 0 0, .int .i64 7]) (by simp [results, Try.results55, go_sem]) rfl ⟨H8.out, by rw [← HRL.out]; exact .inr (.inl ⟨HNP.out, hno, rfl⟩)⟩
    · have H8 := Lib.hid (And.intro (H7.out.1.next0 g8) (H7.out.2.gr0 g8))
      clear g8
      go_wp2_with fail
      exact bodyPost_ret (v := .tuple #[.slice ao' RL.length cap', .int .i64 0]) (by simp [results, Try.results55, go_sem]) rfl ⟨H8.out.1, by rw [← HRL.out]; exact .inr (.inr ⟨HNP.out, hyes, ao', cap', rfl, H8.out.2⟩)⟩

end Go.Proofs.Ytpkhfdcokcchdaa

/-
  Layer 15: the law's list and tame.
-/
namespace Go.Proofs.Ytpkhfdcokcchdaa
open Go.RowKit

theorem infoI15 : (Try.prog.info? 3).map (fun i => (i.zero, i.size, i.bytes)) = some (some (.int .i64 0), 1, 8) := by kernel_rfl
theorem cells2_one2 (x y : Int) : ∀ u ∈ [Value.int .i64 x, .int .i64 y], u.oneCell' = true := by simp [Value.oneCell']
theorem take_snoc {α : Type} {l : List α} {k : Nat} {e : α} (h : l[k]? = some e) : l.take (k + 1) = l.take k ++ [e] := by
  obtain ⟨a, b⟩ := List.getElem?_eq_some_iff.1 h
  rw [List.take_succ_eq_append_getElem a, b]
set_option maxHeartbeats 2000000 in
set_option maxRecDepth 20000 in
theorem elist_some (l : List (Int × Int)) (N b o cap : Nat) (w : World) (h : Rd2 w (some ⟨b, o, none⟩) l) (hN : N = l.length) (hc : N ≤ cap) (_hmax : cap ≤ maxLen) :
    Calls Try.prog 41 #[.slice (some ⟨b, o, none⟩) N cap] w fun e w' => ∃ v, e = .returned (.tuple #[v, .slice (some ⟨b, o, none⟩) (min N 70) cap]) ∧ w'.ownsRow w.heap.size 35 2 v (l.take (min N 70)).length (cells2 (l.take (min N 70))) ∧ Gr [] w w' := by
  obtain ⟨i0, hi0, hz0, hz1, hz2⟩ := info_parts infoExt
  obtain ⟨M, hM⟩ : ∃ M, M = min N 70 := ⟨_, rfl⟩
  have hmn := minZ Try.prog (N : Int) 70 (M : Int) (by omega)
  have hM1 : M ≤ N := by omega
  have hM2 : M ≤ 70 := by omega
  have hM3 : M ≤ cap := by omega
  rw [← hM]
  have HR := Lib.hid h
  have HN := Lib.hid hN
  unfold maxLen at _hmax
  clear h hN hM
  go_enter Try.func41, Try.ntmps41
  go_wp2_with fail
  clear hmn
  go_loopw [4, 14] (fun v i wr => ∃ k : Nat, k ≤ M ∧ i = .int .i64 k ∧ wr.ownsRow w.heap.size 35 2 v k (cells2 (l.take k)) ∧ Gr [] w wr) (fun _ i _ => M - (intOf i).toNat)
  case atStart => exact ⟨0, by omega, rfl, World.ownsRow_nil _ _ _ _, Gr.refl _ _⟩
  case round =>
    obtain ⟨k, hk, rfl, ho, G⟩ := hrel
    have HQ := Lib.hid (And.intro ho G)
    have hsz := G.size
    clear ho G
    by_cases hkM : k < M
    · have hkM2 : (k : Int) < (M : Int) := by omega
      obtain ⟨⟨x1, x2⟩, hx⟩ : ∃ x, l[k]? = some x := ⟨_, List.getElem?_eq_getElem (by have := HN.out; omega)⟩
      obtain ⟨hb, c1, c2⟩ := HR.out.at hx
      have y0 : wr.cell? ⟨b, o + k * 2, none⟩ = some (.int .i64 x1) := (HQ.out.2.cell0 hb).trans c1
      have y1 : wr.cell? ⟨b, o + k * 2 + 1, none⟩ = some (.int .i64 x2) := (HQ.out.2.cell0 hb).trans c2
      have HTK := Lib.hid (take_snoc hx)
      clear c1 c2 hx
      have HX := Lib.hid (Holds.new wr #[.int .i64 x1, .int .i64 x2] 44)
      have HOA := Lib.hid (HQ.out.1.alloc (Obj.cells #[.int .i64 x1, .int .i64 x2] 44))
      have HGA := Lib.hid (HQ.out.2.alloc (Obj.cells #[.int .i64 x1, .int .i64 x2] 44))
      have z0 := HX.out.cell 0
      have z1 := HX.out.cell 1
      have HO3 := Lib.hid (HOA.out.alloc (Obj.cells #[.int .i64 x1, .int .i64 x2] 35))
      have HN3 := Lib.hid (Holds.new (wr.alloc (Obj.cells #[.int .i64 x1, .int .i64 x2] 44)) #[.int .i64 x1, .int .i64 x2] 35)
      rw [World.size_alloc] at HN3
      go_wp2_with (at_builtin; refine wpList_append_own _ rfl _ _ 82 rfl w.heap.size 35 i0 _ 2 16 Try.underlying82 hi0 hz0 hz1 hz2 rfl (by decide) _ _ _ rfl HO3.out ⟨wr.heap.size + 1, 0, none⟩ 1 1 [.int .i64 x1, .int .i64 x2] rfl rfl (World.news_of_block HN3.out) (cells2_one2 x1 x2) (by unfold maxLen; omega) (by omega) (by rw [World.size_alloc, World.size_alloc]; omega) ?_)
      intro v4 w4 hown4 hgrow4 _
      have hlt4 := HO3.out.lt
      have HF := Lib.hid (And.intro (show w4.ownsRow w.heap.size 35 2 v4 (k + 1) (cells2 (l.take (k + 1))) by
        rw [HTK.out, cells2_append]; exact hown4) ((HGA.out.alloc (Obj.cells #[.int .i64 x1, .int .i64 x2] 35)).nextN (gr_grown hgrow4) (fun x hx => .inr (hlt4 x (by simpa using hx)).1)))
      clear hown4 hgrow4 hlt4 HO3 HN3 z0 z1 y0 y1
      go_wp2_with fail
      go_roundw
      case rel => exact ⟨k + 1, by omega, by go_num, HF.out.1, HF.out.2⟩
      case measure => simp [intOf]; omega
    · obtain rfl : k = M := by omega
      obtain ⟨aa, cc, rfl⟩ := own_form HQ.out.1
      have hll : (l.take k).length = k := by rw [List.length_take]; have := HN.out; omega
      have HLL := Lib.hid hll
      clear hll
      go_wp2_with fail
      exact bodyPost_ret (v := .tuple #[.slice aa k cc, .slice (some ⟨b, o, none⟩) k cap]) (by simp [results, Try.results41, go_sem]) rfl ⟨_, rfl, by rw [HLL.out]; exact HQ.out.1, HQ.out.2⟩
theorem elist_none (w : World) :
    Calls Try.prog 41 #[.slice none 0 0] w fun e w' => e = .returned (.tuple #[.slice none 0 0, .slice none 0 0]) ∧ Gr [] w w' := by
  have hmn := minZ Try.prog 0 70 0 (by omega)
  go_enter Try.func41, Try.ntmps41
  go_wp2_with fail
  clear hmn
  go_loopw [4, 14] (fun v i wr => v = .slice none 0 0 ∧ i = .int .i64 0 ∧ wr = w) (fun _ _ _ => 0)
  case atStart => exact ⟨rfl, rfl, rfl⟩
  case round =>
    obtain ⟨rfl, rfl, rfl⟩ := hrel
    go_wp2_with fail
    exact bodyPost_ret (v := .tuple #[.slice none 0 0, .slice none 0 0]) (by simp [results, Try.results41, go_sem]) rfl ⟨rfl, Gr.refl _ _⟩

end Go.Proofs.Ytpkhfdcokcchdaa

/-
  Layer 15: the law's tame.
-/
namespace Go.Proofs.Ytpkhfdcokcchdaa
open Go.RowKit

def tmE (e : Int × Int) : Int × Int := (if e.1 < 0 then -1 else e.1 % 200, 1 + mx e.2 % 9)
theorem tmE_bd (e : Int × Int) : -1 ≤ (tmE e).1 ∧ (tmE e).1 ≤ 199 ∧ 1 ≤ (tmE e).2 ∧ (tmE e).2 ≤ 9 := by
  unfold tmE mx
  simp only
  split <;> omega
theorem blkR_mem {e : Int × Int} {x : Int} (h : x ∈ blkR e) : x = -1 ∨ (e.1 ≤ x ∧ x < e.1 + e.2) := by
  unfold blkR at h
  obtain ⟨k, hk, rfl⟩ := List.mem_map.1 h
  have := List.mem_range.1 hk
  split
  · exact .inl rfl
  · exact .inr (by omega)
theorem blk_mem {l : List (Int × Int)} (h : ∀ e ∈ l, -1 ≤ e.1 ∧ e.1 ≤ 199 ∧ 1 ≤ e.2 ∧ e.2 ≤ 9) : ∀ x ∈ blk l, -1 ≤ x ∧ x ≤ 1000000 := by
  intro x hx
  obtain ⟨e, he, hxe⟩ := List.mem_flatMap.1 hx
  have := h e he
  rcases blkR_mem hxe with q | q <;> omega
theorem blk_short {l : List (Int × Int)} (h : ∀ e ∈ l, -1 ≤ e.1 ∧ e.1 ≤ 199 ∧ 1 ≤ e.2 ∧ e.2 ≤ 9) : (blk l).length ≤ 9 * l.length := by
  induction l with
  | nil => simp [blk]
  | cons e r ih =>
    have h1 := h e (by simp)
    have h2 := ih (fun x hx => h x (by simp [hx]))
    rw [blk_cons, List.length_append, blkR_len, List.length_cons]
    omega
theorem tm_all (l : List (Int × Int)) : ∀ e ∈ l.map tmE, -1 ≤ e.1 ∧ e.1 ≤ 199 ∧ 1 ≤ e.2 ∧ e.2 ≤ 9 := by
  intro e he
  obtain ⟨x, _, rfl⟩ := List.mem_map.1 he
  exact tmE_bd x
def tamed (l : List (Int × Int)) : List (Int × Int) := joinP ((l.take 20).map tmE)
theorem maxZ (P : Program) (x y m : Int) (h : m = max x y) (ts : Array TypeId) (t : TypeId) (w : World) : (Builtin.max_ ts t #[.int .i64 x, .int .i64 y]).run P w = .ok (.int .i64 m) w := by
  rw [run_max_int2]
  have : (if x < y then y else x) = m := by split <;> omega
  rw [this]

set_option maxHeartbeats 3000000 in
set_option maxRecDepth 20000 in
theorem etame_some (l : List (Int × Int)) (N b o cap : Nat) (w : World) (h : Rd2 w (some ⟨b, o, none⟩) l) (hN : N = l.length) (hc : N ≤ cap) :
    Calls Try.prog 40 #[.slice (some ⟨b, o, none⟩) N cap] w fun e w' => ∃ v, e = .returned v ∧ w'.ownsRow w.heap.size 44 2 v (tamed l).length (cells2 (tamed l)) ∧ Gr [] w w' := by
  obtain ⟨i0, hi0, hz0, hz1, hz2⟩ := info_parts infoI15
  obtain ⟨M, hM⟩ : ∃ M, M = min N 20 := ⟨_, rfl⟩
  have hmn := minZ Try.prog (N : Int) 20 (M : Int) (by omega)
  have hM1 : M ≤ N := by omega
  have hM2 : M ≤ 20 := by omega
  have hM3 : M ≤ cap := by omega
  have HR := Lib.hid h
  have HN := Lib.hid hN
  have HM := Lib.hid hM
  clear h hN hM
  go_enter Try.func40, Try.ntmps40
  go_wp2_with fail
  clear hmn
  go_loopw [3, 15] (fun v i wr => ∃ k : Nat, k ≤ M ∧ i = .int .i64 k ∧ wr.ownsRow w.heap.size 3 1 v (blk ((l.take k).map tmE)).length (cellsZ (blk ((l.take k).map tmE))) ∧ Gr [] w wr) (fun _ i _ => M - (intOf i).toNat)
  case atStart => exact ⟨0, by omega, rfl, World.ownsRow_nil _ _ _ _, Gr.refl _ _⟩
  case round =>
    obtain ⟨k, hk, rfl, ho, G⟩ := hrel
    have HQ := Lib.hid (And.intro ho G)
    have hsz := G.size
    clear ho G
    by_cases hkM : k < M
    · have hkM2 : (k : Int) < (M : Int) := by omega
      obtain ⟨⟨x1, x2⟩, hx⟩ : ∃ x, l[k]? = some x := ⟨_, List.getElem?_eq_getElem (by have := HN.out; omega)⟩
      obtain ⟨hb, c1, c2⟩ := HR.out.at hx
      have y0 : wr.cell? ⟨b, o + k * 2, none⟩ = some (.int .i64 x1) := (HQ.out.2.cell0 hb).trans c1
      have y1 : wr.cell? ⟨b, o + k * 2 + 1, none⟩ = some (.int .i64 x2) := (HQ.out.2.cell0 hb).trans c2
      have HTK := Lib.hid (show blk ((l.take (k + 1)).map tmE) = blk ((l.take k).map tmE) ++ blkR (tmE (x1, x2)) by
        rw [take_snoc hx, List.map_append, blk_append]; simp [blk])
      have HBS := Lib.hid (show (blk ((l.take k).map tmE)).length ≤ 200 by
        have := blk_short (tm_all (l.take k))
        rw [List.length_map, List.length_take] at this
        omega)
      clear c1 c2 hx
      obtain ⟨t, ht⟩ : ∃ t, t = (tmE (x1, x2)).1 := ⟨_, rfl⟩
      obtain ⟨n, hn⟩ : ∃ n : Nat, (n : Int) = 1 + mx x2 % 9 := ⟨(1 + mx x2 % 9).toNat, by have := mx_nonneg x2; omega⟩
      have htm : tmE (x1, x2) = (t, (n : Int)) := by rw [ht, hn]; rfl
      rw [htm] at HTK
      have hbd := tmE_bd (x1, x2)
      rw [htm] at hbd
      simp only at hbd
      have hmx := max0 Try.prog
      have hn0 := mx_nonneg x2
      have HX := Lib.hid (Holds.new wr #[.int .i64 x1, .int .i64 x2] 44)
      have HOA := Lib.hid (HQ.out.1.alloc (Obj.cells #[.int .i64 x1, .int .i64 x2] 44))
      have HGA := Lib.hid (HQ.out.2.alloc (Obj.cells #[.int .i64 x1, .int .i64 x2] 44))
      by_cases hneg : x1 < 0
      · have hm1 := maxZ Try.prog (-1) x1 (-1) (by omega)
        have htv : t = -1 := by rw [ht]; unfold tmE; simp [hneg]
        subst htv
        clear ht htm
        go_wp2_with fail
        go_quiet (fail)
        have HQY := Lib.hid (And.intro (own_gr0 HOA.out ((Gr.refl [] (wr.alloc (Obj.cells #[.int .i64 x1, .int .i64 x2] 44))).drewN nq)) (HGA.out.drewN nq))
        generalize (wr.alloc (Obj.cells #[.int .i64 x1, .int .i64 x2] 44)).drewN nq = wy at *
        rw [← hn]
        clear hn hn0 hmx hm1 HX HOA HGA y0 y1 hb HQ
        obtain ⟨P0, hP0⟩ : ∃ P0, P0 = blk ((l.take k).map tmE) := ⟨_, rfl⟩
        rw [← hP0] at HQY HTK HBS
        clear hP0
        go_wp2_with fail
        go_loopw [3, 29] (fun v i wr => ∃ (j : Nat) (C : List Int), j ≤ n ∧ i = .int .i64 j ∧ Hid (C = P0 ++ blkR ((-1), (j : Int))) ∧ wr.ownsRow w.heap.size 3 1 v C.length (cellsZ C) ∧ Gr [] w wr) (fun _ i _ => n - (intOf i).toNat)
        case atStart => exact ⟨0, P0, by omega, rfl, Lib.hid (by simp [blkR]), HQY.out.1, HQY.out.2⟩
        case round =>
          clear HQY
          obtain ⟨j, C, hj, rfl, HC, ho, G⟩ := hrel
          have HQ2 := Lib.hid (And.intro ho G)
          have hsz2 := G.size
          clear ho G
          by_cases hjn : j < n
          · have hjn2 : (j : Int) < (n : Int) := by omega
            have HUP := Lib.hid (show C ++ [(-1)] = P0 ++ blkR ((-1), ((j + 1 : Nat) : Int)) by
              rw [show ((j + 1 : Nat) : Int) = (j : Int) + 1 by omega, blkR_up, HC.out, List.append_assoc]
              simp)
            have hCl : C.length ≤ 300 := by
              rw [HC.out, List.length_append, blkR_len]
              have := HBS.out
              simp only
              omega
            have HN3 := Lib.hid (Holds.new wr #[.int .i64 (-1)] 3)
            have HO3 := Lib.hid (HQ2.out.1.alloc (Obj.cells #[.int .i64 (-1)] 3))
            have hone : ∀ u ∈ [Value.int .i64 (-1)], u.oneCell' = true := by simp [Value.oneCell']
            have hw : IntKind.i64.wrap (-1) = (-1) := IntWalk.i64_in _ (by omega)
            go_wp2_with (at_builtin; refine wpList_append_own _ rfl _ _ 47 rfl w.heap.size 3 i0 _ 1 8 Try.underlying47 hi0 hz0 hz1 hz2 rfl (by decide) _ _ _ rfl HO3.out ⟨wr.heap.size, 0, none⟩ 1 1 [.int .i64 (-1)] rfl rfl (World.news_of_block HN3.out) hone (by unfold maxLen; omega) (by omega) (by rw [World.size_alloc]; omega) ?_)
            intro v4 w4 hown4 hgrow4 _
            have hlt4 := HO3.out.lt
            have HF := Lib.hid (And.intro (show w4.ownsRow w.heap.size 3 1 v4 (C ++ [(-1)]).length (cellsZ (C ++ [(-1)])) by
              rw [List.length_append, cellsZ_append]; exact hown4) ((HQ2.out.2.alloc (Obj.cells #[.int .i64 (-1)] 3)).nextN (gr_grown hgrow4) (fun x hx => .inr (hlt4 x (by simpa using hx)).1)))
            clear hown4 hgrow4 hlt4 HO3 HN3 hone
            go_wp2_with fail
            go_roundw
            case rel => exact ⟨j + 1, C ++ [(-1)], by omega, by go_num, HUP, HF.out.1, HF.out.2⟩
            case measure => simp [intOf]; omega
          · obtain rfl : j = n := by omega
            have HF := Lib.hid (show wr.ownsRow w.heap.size 3 1 u3 (blk ((l.take (k + 1)).map tmE)).length (cellsZ (blk ((l.take (k + 1)).map tmE))) by
              rw [HTK.out, ← HC.out]; exact HQ2.out.1)
            go_wp2_with fail
            go_roundw
            case rel => exact ⟨k + 1, by omega, by go_num, HF.out, HQ2.out.2⟩
            case measure => simp [intOf]; omega
      · have hm1 := maxZ Try.prog (-1) x1 x1 (by omega)
        have htv : x1 % 200 = t := by rw [ht]; unfold tmE; simp [hneg]
        clear ht htm
        go_wp2_with fail
        go_quiet (fail)
        have HQY := Lib.hid (And.intro (own_gr0 HOA.out ((Gr.refl [] (wr.alloc (Obj.cells #[.int .i64 x1, .int .i64 x2] 44))).drewN nq)) (HGA.out.drewN nq))
        generalize (wr.alloc (Obj.cells #[.int .i64 x1, .int .i64 x2] 44)).drewN nq = wy at *
        rw [htv, ← hn]
        have ht0 : 0 ≤ t := by omega
        clear hn hn0 hmx hm1 HX HOA HGA y0 y1 hb HQ htv
        obtain ⟨P0, hP0⟩ : ∃ P0, P0 = blk ((l.take k).map tmE) := ⟨_, rfl⟩
        rw [← hP0] at HQY HTK HBS
        clear hP0
        go_wp2_with fail
        go_loopw [3, 29] (fun v i wr => ∃ (j : Nat) (C : List Int), j ≤ n ∧ i = .int .i64 j ∧ Hid (C = P0 ++ blkR (t, (j : Int))) ∧ wr.ownsRow w.heap.size 3 1 v C.length (cellsZ C) ∧ Gr [] w wr) (fun _ i _ => n - (intOf i).toNat)
        case atStart => exact ⟨0, P0, by omega, rfl, Lib.hid (by simp [blkR]), HQY.out.1, HQY.out.2⟩
        case round =>
          clear HQY
          obtain ⟨j, C, hj, rfl, HC, ho, G⟩ := hrel
          have HQ2 := Lib.hid (And.intro ho G)
          have hsz2 := G.size
          clear ho G
          by_cases hjn : j < n
          · have hjn2 : (j : Int) < (n : Int) := by omega
            have HUP := Lib.hid (show C ++ [(t + (j : Int))] = P0 ++ blkR (t, ((j + 1 : Nat) : Int)) by
              rw [show ((j + 1 : Nat) : Int) = (j : Int) + 1 by omega, blkR_up, HC.out, List.append_assoc]
              rw [if_neg (show ¬ t = -1 by omega)])
            have hCl : C.length ≤ 300 := by
              rw [HC.out, List.length_append, blkR_len]
              have := HBS.out
              simp only
              omega
            have HN3 := Lib.hid (Holds.new wr #[.int .i64 (t + (j : Int))] 3)
            have HO3 := Lib.hid (HQ2.out.1.alloc (Obj.cells #[.int .i64 (t + (j : Int))] 3))
            have hone : ∀ u ∈ [Value.int .i64 (t + (j : Int))], u.oneCell' = true := by simp [Value.oneCell']
            have hw : IntKind.i64.wrap (t + (j : Int)) = (t + (j : Int)) := IntWalk.i64_in _ (by omega)
            go_wp2_with (at_builtin; refine wpList_append_own _ rfl _ _ 47 rfl w.heap.size 3 i0 _ 1 8 Try.underlying47 hi0 hz0 hz1 hz2 rfl (by decide) _ _ _ rfl HO3.out ⟨wr.heap.size, 0, none⟩ 1 1 [.int .i64 (t + (j : Int))] rfl rfl (World.news_of_block HN3.out) hone (by unfold maxLen; omega) (by omega) (by rw [World.size_alloc]; omega) ?_)
            intro v4 w4 hown4 hgrow4 _
            have hlt4 := HO3.out.lt
            have HF := Lib.hid (And.intro (show w4.ownsRow w.heap.size 3 1 v4 (C ++ [(t + (j : Int))]).length (cellsZ (C ++ [(t + (j : Int))])) by
              rw [List.length_append, cellsZ_append]; exact hown4) ((HQ2.out.2.alloc (Obj.cells #[.int .i64 (t + (j : Int))] 3)).nextN (gr_grown hgrow4) (fun x hx => .inr (hlt4 x (by simpa using hx)).1)))
            clear hown4 hgrow4 hlt4 HO3 HN3 hone
            go_wp2_with fail
            go_roundw
            case rel => exact ⟨j + 1, C ++ [(t + (j : Int))], by omega, by go_num, HUP, HF.out.1, HF.out.2⟩
            case measure => simp [intOf]; omega
          · obtain rfl : j = n := by omega
            have HF := Lib.hid (show wr.ownsRow w.heap.size 3 1 u3 (blk ((l.take (k + 1)).map tmE)).length (cellsZ (blk ((l.take (k + 1)).map tmE))) by
              rw [HTK.out, ← HC.out]; exact HQ2.out.1)
            go_wp2_with fail
            go_roundw
            case rel => exact ⟨k + 1, by omega, by go_num, HF.out, HQ2.out.2⟩
            case measure => simp [intOf]; omega
    · obtain rfl : k = M := by omega
      have hE : (l.take k).map tmE = (l.take 20).map tmE := by
        have h1 := HM.out
        have h2 := HN.out
        rw [h1, h2]
        congr 1
        by_cases q : l.length ≤ 20
        · rw [Nat.min_eq_left q, List.take_length, List.take_of_length_le q]
        · rw [Nat.min_eq_right (by omega)]
      rw [hE] at HQ
      have HTM := Lib.hid (show runsP (blk ((l.take 20).map tmE)) = tamed l from runs_blk ((l.take 20).map tmE) (fun e he => by have := tm_all (l.take 20) e he; exact ⟨this.1, this.2.2.1⟩))
      have hSH := blk_short (tm_all (l.take 20))
      rw [List.length_map, List.length_take] at hSH
      have HBM := Lib.hid (blk_mem (tm_all (l.take 20)))
      obtain ⟨B, hB⟩ : ∃ B, B = blk ((l.take 20).map tmE) := ⟨_, rfl⟩
      rw [← hB] at HQ HTM HBM hSH
      obtain ⟨aa, cc, rfl⟩ := own_form HQ.out.1
      have hBl : B.length ≤ 1000000 := by omega
      have HRZ := Lib.hid (own_rdZ HQ.out.1)
      have HRN := Lib.hid (rruns_any B B.length aa cc wr HRZ.out rfl HBM.out hBl)
      clear hB hE hSH
      go_wp2_with fail
      refine HRN.out.mono ?_
      rintro e w2 ⟨v, rfl, ho, g⟩
      rw [HTM.out] at ho
      have HF := Lib.hid (And.intro (ho.mono HQ.out.2.size) (HQ.out.2.next0 g))
      clear ho g
      go_wp2_with fail
      go_ret
      exact ⟨_, rfl, HF.out.1, HF.out.2⟩

end Go.Proofs.Ytpkhfdcokcchdaa

/-
  Layer 15: what ExtBack says of lists, without the program.
-/
namespace Go.Proofs.Ytpkhfdcokcchdaa
open Go.RowKit

theorem addR_cases (acc : List (Int × Int)) (e : Int × Int) : (acc = [] ∧ addR acc e = [e]) ∨ ∃ A p, acc = A ++ [p] ∧ ((mrg p e = true ∧ addR acc e = A ++ [(p.1, p.2 + e.2)]) ∨ (mrg p e = false ∧ addR acc e = A ++ [p] ++ [e])) := by
  rcases List.eq_nil_or_concat acc with q | ⟨A, p, q⟩
  · exact .inl ⟨q, by rw [q]; rfl⟩
  · rw [List.concat_eq_append] at q
    refine .inr ⟨A, p, q, ?_⟩
    rw [q, addR_snoc]
    cases h : mrg p e with
    | true => exact .inl ⟨rfl, rfl⟩
    | false => exact .inr ⟨rfl, rfl⟩
theorem apart_add {acc : List (Int × Int)} (e : Int × Int) (h : apartP acc = true) : apartP (addR acc e) = true := by
  rcases addR_cases acc e with ⟨_, q⟩ | ⟨A, p, ha, ⟨m, q⟩ | ⟨m, q⟩⟩
  · rw [q]; simp [apartP]
  · rw [q]
    rw [ha] at h
    rcases List.eq_nil_or_concat A with z | ⟨B, b, z⟩
    · rw [z]; simp [apartP]
    · rw [List.concat_eq_append] at z
      rw [z] at h ⊢
      rw [apart_snoc] at h ⊢
      rw [mrg_fst b (p.1, p.2 + e.2) p rfl]
      exact h
  · rw [q, apart_snoc, m]
    rw [ha] at h
    rw [h]; rfl
theorem apart_fold (l : List (Int × Int)) : ∀ acc, apartP acc = true → apartP (l.foldl addR acc) = true := by
  induction l with
  | nil => intro acc h; exact h
  | cons e r ih => intro acc h; exact ih _ (apart_add e h)
theorem apart_join (l : List (Int × Int)) : apartP (joinP l) = true := apart_fold l [] (by simp [apartP])
theorem len_add (acc : List (Int × Int)) (e : Int × Int) : (addR acc e).length ≤ acc.length + 1 := by
  rcases addR_cases acc e with ⟨_, q⟩ | ⟨A, p, ha, ⟨m, q⟩ | ⟨m, q⟩⟩
  · rw [q]; simp
  · rw [q, ha]; simp
  · rw [q, ha]; simp
theorem len_fold (l : List (Int × Int)) : ∀ acc : List (Int × Int), (l.foldl addR acc).length ≤ acc.length + l.length := by
  induction l with
  | nil => intro acc; simp
  | cons e r ih =>
    intro acc
    have h1 := ih (addR acc e)
    have h2 := len_add acc e
    rw [List.foldl_cons, List.length_cons]
    omega
theorem blkR_join {p e : Int × Int} (m : mrg p e = true) (hp : okR p) (he : okR e) : blkR (p.1, p.2 + e.2) = blkR p ++ blkR e := by
  have h2 := hp.2
  have h3 := he.2
  have h1 := hp.1
  unfold blkR
  simp only
  rw [show (p.2 + e.2).toNat = p.2.toNat + e.2.toNat by omega, List.range_add, List.map_append, List.map_map]
  congr 1
  refine List.map_congr_left fun k hk => ?_
  simp only [Function.comp]
  unfold mrg at m
  split at m
  · simp only [decide_eq_true_eq] at m
    have : p.1 = -1 ∧ e.1 = -1 := by omega
    rw [if_pos this.1, if_pos this.2]
  · simp only [decide_eq_true_eq] at m
    rw [if_neg (by omega), if_neg (by omega)]
    push_cast
    omega
theorem blk_add {acc : List (Int × Int)} {e : Int × Int} (ha : ∀ p ∈ acc, okR p) (he : okR e) : blk (addR acc e) = blk acc ++ blkR e ∧ ∀ p ∈ addR acc e, okR p := by
  rcases addR_cases acc e with ⟨z, q⟩ | ⟨A, p, z, ⟨m, q⟩ | ⟨m, q⟩⟩
  · rw [q, z]
    exact ⟨by simp [blk], fun x hx => by simp at hx; subst hx; exact he⟩
  · have hp : okR p := ha p (by rw [z]; simp)
    rw [q, z, blk_append, blk_append, List.append_assoc]
    refine ⟨?_, fun x hx => ?_⟩
    · congr 1
      have := blkR_join m hp he
      simp [blk, this]
    · rcases List.mem_append.1 hx with y | y
      · exact ha x (by rw [z]; simp [y])
      · simp at y; subst y; exact ⟨hp.1, by have := hp.2; have := he.2; simp only; omega⟩
  · rw [q, z]
    refine ⟨by simp [blk], fun x hx => ?_⟩
    rcases List.mem_append.1 hx with y | y
    · exact ha x (by rw [z]; exact y)
    · simp at y; subst y; exact he
theorem blk_fold (l : List (Int × Int)) : ∀ acc, (∀ p ∈ acc, okR p) → (∀ p ∈ l, okR p) → blk (l.foldl addR acc) = blk acc ++ blk l := by
  induction l with
  | nil => intro acc _ _; simp [blk]
  | cons e r ih =>
    intro acc ha hl
    obtain ⟨h1, h2⟩ := blk_add ha (hl e (by simp))
    rw [List.foldl_cons, ih _ h2 (fun p hp => hl p (by simp [hp])), h1, blk_cons, List.append_assoc]
theorem blk_join {l : List (Int × Int)} (h : ∀ p ∈ l, okR p) : blk (joinP l) = blk l := by
  have := blk_fold l [] (fun p hp => by simp at hp) h
  rw [blk_nil, List.nil_append] at this
  exact this

theorem Right15.of {l : List (Int × Int)} (h1 : l.length ≤ 64) (h2 : ∀ e ∈ l, -1 ≤ e.1 ∧ e.1 ≤ 65536 ∧ 1 ≤ e.2 ∧ e.2 ≤ 65536) (h3 : apartP l = true) (h4 : sumZ l ≤ 65536) : Right15 l :=
  ⟨h1, ⟨by rw [List.take_length]; exact h2, by rw [List.take_length]; exact h3⟩, h4⟩
theorem sum_tm (l : List (Int × Int)) (h : ∀ e ∈ l, -1 ≤ e.1 ∧ e.1 ≤ 199 ∧ 1 ≤ e.2 ∧ e.2 ≤ 9) : sumZ l ≤ 9 * l.length := by
  have h1 := blk_len (l := l) (fun e he => (h e he).2.2.1)
  have h2 := blk_short h
  omega
theorem tamed_ok (l : List (Int × Int)) : Right15 (tamed l) ∧ (∀ e ∈ tamed l, -1 ≤ e.1 ∧ e.1 ≤ 199 ∧ 1 ≤ e.2 ∧ e.2 ≤ 180) ∧ sumZ (tamed l) ≤ 180 ∧ (tamed l).length ≤ 20 := by
  have hlen : ((l.take 20).map tmE).length ≤ 20 := by simp; omega
  have hj := join_take_ok (l := (l.take 20).map tmE) (B := 199) (fun e he => by have := tm_all (l.take 20) e he; exact ⟨this.1, this.2.1, this.2.2.1⟩) ((l.take 20).map tmE).length (Nat.le_refl _)
  rw [List.take_length] at hj
  have hs := sum_tm _ (tm_all (l.take 20))
  have hn := len_fold ((l.take 20).map tmE) []
  have hm := sumZ_mem (l := tamed l) (fun p hp => (hj.1 p hp).2.2)
  have hsum : sumZ (tamed l) ≤ 180 := by unfold tamed; rw [hj.2]; omega
  have hl : (tamed l).length ≤ 20 := by unfold tamed joinP; simp only [List.length_nil] at hn; omega
  have hall : ∀ e ∈ tamed l, -1 ≤ e.1 ∧ e.1 ≤ 199 ∧ 1 ≤ e.2 ∧ e.2 ≤ 180 := fun e he => ⟨(hj.1 e he).1, (hj.1 e he).2.1, (hj.1 e he).2.2, by have := hm.2 e he; omega⟩
  exact ⟨.of (by omega) (fun e he => by have := hall e he; omega) (apart_join _) (by omega), hall, hsum, hl⟩

theorem sum_solid (l : List (Int × Int)) : sumZ (l.filter solidB) = heldZ l := by
  induction l with
  | nil => rfl
  | cons e r ih =>
    rw [List.filter_cons]
    unfold solidB at ih ⊢
    by_cases q : e.1 = -1
    · simp [q, heldZ, ih]
    · simp [q, heldZ, sumZ, ih]
theorem sum_first {l : List (Int × Int)} (h : Right15 l) {k : Nat} (hk : (k : Int) ≤ sumZ l) : sumZ (firstP l k) = k ∧ Right15 (firstP l k) := by
  have h1 := split_blk (l := l) (n := (k : Int)) (by omega) (fun e he => ⟨(h.all e he).1, (h.all e he).2.2.1⟩)
  have h2 := split_ok (l := l) (n := (k : Int)) (B := 65536) (by omega) h.all h.apart
  have h3 := blk_len (l := firstP l k) (fun e he => (h2.1 e he).2.2.1)
  have h4 := blk_len (l := l) (fun e he => (h.all e he).2.2.1)
  have hs : sumZ (firstP l k) = k := by
    rw [← h3, h1.1, List.length_take]
    omega
  have := h.1
  have := h.2.2
  exact ⟨hs, .of (by omega) h2.1 h2.2.2.1 (by omega)⟩
theorem first_get {l : List (Int × Int)} (h : Right15 l) {k i : Nat} (hi : i < k) : (blk (firstP l k))[i]? = (blk l)[i]? := by
  have h1 := split_blk (l := l) (n := (k : Int)) (by omega) (fun e he => ⟨(h.all e he).1, (h.all e he).2.2.1⟩)
  rw [h1.1, List.getElem?_take_of_lt (by omega)]
theorem rest_all {l : List (Int × Int)} {e : Int × Int} (h : ∀ x ∈ l, 1 ≤ x.2) (he : 1 ≤ e.2) : restP (l ++ [e]) (sumZ l) = [e] := by
  induction l with
  | nil => exact restP_zero (fun x hx => by simp at hx; subst hx; exact he)
  | cons x r ih =>
    have h1 := ih (fun y hy => h y (by simp [hy]))
    have h2 := sumZ_mem (l := r) (fun y hy => h y (by simp [hy]))
    show restP (x :: (r ++ [e])) (x.2 + sumZ r) = [e]
    rw [restP_big x (r ++ [e]) _ (by omega), show x.2 + sumZ r - x.2 = sumZ r by omega, h1]
theorem app_tamed {l : List (Int × Int)} {A : Int} (h : ∀ e ∈ l, -1 ≤ e.1 ∧ e.1 ≤ 199 ∧ 1 ≤ e.2 ∧ e.2 ≤ 180) (hap : apartP l = true) (hA : 1000 ≤ A) : joinP (l ++ [(A, 2)]) = l ++ [(A, 2)] := by
  refine join_apart _ ?_
  rcases List.eq_nil_or_concat l with q | ⟨B, p, q⟩
  · rw [q]; simp [apartP]
  · rw [List.concat_eq_append] at q
    rw [q] at h hap ⊢
    have hp := h p (by simp)
    rw [apart_snoc, hap]
    have : mrg p (A, 2) = false := by
      unfold mrg
      simp only
      split
      · simp; omega
      · simp; omega
    rw [this]; rfl
theorem one_run {l : List (Int × Int)} {x : Int} (h : ∀ e ∈ l, okR e) (hb : blk l = [x]) : l = [(x, 1)] := by
  have h1 := blk_len (l := l) (fun e he => (h e he).2)
  rw [hb] at h1
  match l with
  | [] => simp [blk] at hb
  | e :: r =>
    have h2 := sumZ_mem (l := r) (fun e he => (h e (by simp [he])).2)
    have h3 := (h e (by simp)).2
    have h4 : e.2 + sumZ r = 1 := by simp at h1; exact h1.symm
    have hr : r = [] := by
      match r with
      | [] => rfl
      | y :: z => simp at h2; omega
    subst hr
    have he : e.2 = 1 := by simp [sumZ] at h4; exact h4
    have : e = (e.1, 1) := by rw [← he]
    rw [this] at hb ⊢
    rw [blk_cons, blkR_one] at hb
    simp [blk] at hb
    rw [hb]
theorem held_at {l : List (Int × Int)} (h : Right15 l) {i : Nat} {x : Int} (hx : (blk l)[i]? = some x) : heldZ (firstP (restP l i) (1 : Nat)) = if x = -1 then 0 else 1 := by
  have h1 := split_blk (l := l) (n := (i : Int)) (by omega) (fun e he => ⟨(h.all e he).1, (h.all e he).2.2.1⟩)
  have h2 := split_ok (l := l) (n := (i : Int)) (B := 65536) (by omega) h.all h.apart
  have h3 := split_blk (l := restP l i) (n := ((1 : Nat) : Int)) (by omega) (fun e he => ⟨(h2.2.1 e he).1, (h2.2.1 e he).2.2.1⟩)
  have h4 := split_ok (l := restP l i) (n := ((1 : Nat) : Int)) (B := 131072) (by omega) h2.2.1 h2.2.2.2.1
  have hb : blk (firstP (restP l i) ((1 : Nat) : Int)) = [x] := by
    rw [h3.1, h1.2]
    obtain ⟨a, b⟩ := List.getElem?_eq_some_iff.1 hx
    rw [show ((i : Int)).toNat = i by omega, List.drop_eq_getElem_cons a, b]
    rfl
  rw [one_run (fun e he => ⟨(h4.1 e he).1, (h4.1 e he).2.2.1⟩) hb]
  simp [heldZ]
theorem fill_blk {l : List (Int × Int)} (h : Right15 l) (i : Nat) {A : Int} (hA : 0 ≤ A) (j : Nat) (hi : i < (blk l).length) : (blk (joinP (fillP l i 1 A)))[j]? = if j = i then some A else (blk l)[j]? := by
  have h1 := split_blk (l := l) (n := (i : Int)) (by omega) (fun e he => ⟨(h.all e he).1, (h.all e he).2.2.1⟩)
  have h2 := split_ok (l := l) (n := (i : Int)) (B := 65536) (by omega) h.all h.apart
  have h3 := split_blk (l := restP l i) (n := ((1 : Nat) : Int)) (by omega) (fun e he => ⟨(h2.2.1 e he).1, (h2.2.1 e he).2.2.1⟩)
  have h4 := split_ok (l := restP l i) (n := ((1 : Nat) : Int)) (B := 131072) (by omega) h2.2.1 h2.2.2.2.1
  have hok : ∀ p ∈ fillP l i 1 A, okR p := by
    intro p hp
    unfold fillP at hp
    rcases List.mem_append.1 hp with q | q
    · rcases List.mem_append.1 q with q | q
      · have := h2.1 p q; exact ⟨this.1, this.2.2.1⟩
      · simp at q; subst q; exact ⟨by simp only; omega, by simp⟩
    · have := h4.2.1 p q; exact ⟨this.1, this.2.2.1⟩
  rw [blk_join hok]
  unfold fillP
  rw [blk_append, blk_append, h1.1, h3.2, h1.2, List.drop_drop]
  have hone : blk [(A, ((1 : Nat) : Int))] = [A] := by
    rw [blk_cons, show ((1 : Nat) : Int) = 1 from rfl, blkR_one]; rfl
  rw [hone, show ((i : Int)).toNat = i by omega, show (((1 : Nat) : Int)).toNat = 1 by omega]
  have hl : ((blk l).take i).length = i := by rw [List.length_take]; omega
  rcases Nat.lt_trichotomy j i with q | q | q
  · rw [if_neg (by omega), List.append_assoc, List.getElem?_append_left (by omega), List.getElem?_take_of_lt q]
  · subst q
    rw [if_pos rfl, List.append_assoc, List.getElem?_append_right (by omega), hl, Nat.sub_self]
    rfl
  · rw [if_neg (by omega), List.getElem?_append_right (by rw [List.length_append, hl]; simp; omega), List.length_append, hl, List.getElem?_drop]
    congr 1
    simp
    omega

end Go.Proofs.Ytpkhfdcokcchdaa
