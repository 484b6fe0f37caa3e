/-
  Layer 15: the program's valid, Append, split.
-/
import Derived.Test.YtpkhfdcokcchdaaExF
import Derived.Test.YtpkhfdcokcchdaaExG
import Derived.Deep.RegionHeld3
namespace Go.Proofs.Ytpkhfdcokcchdaa
open Go.RowKit

theorem sl2_parts {w : World} {ao : Option Addr} {n cap : Nat} {l : List (Int × Int)} (h : Sl2 w (.slice ao n cap) l) : n = l.length ∧ Rd2 w ao l ∧ n ≤ cap ∧ cap ≤ maxLen ∧ (ao = none → cap = 0) := by
  obtain ⟨a, c, hv, h1, h2, h3, h4⟩ := h
  injection hv with q1 q2 q3
  subst q1 q2 q3
  exact ⟨rfl, h1, h2, h3, h4⟩
theorem evalid_any (l : List (Int × Int)) (L : Nat) (ao : Option Addr) (cap : Nat) (w : World) (h : Rd2 w ao l) (hL : L = l.length) :
    Calls Try.prog 100 #[.slice ao L cap] w fun e w' => Gr [] w w' ∧ ((¬ Right15 l ∧ e = .returned (.tuple #[.slice none 0 0, .int .i64 7])) ∨ (Right15 l ∧ e = .returned (.tuple #[.slice ao L cap, .int .i64 0]))) := by
  by_cases hr : Right15 l
  · have HC := Lib.hid (eright_yes l L ao cap w h hL hr)
    have HR := Lib.hid hr
    clear h hL hr
    go_enter Try.func100, Try.ntmps100
    go_wp2_with fail
    refine HC.out.mono ?_
    rintro e w5 ⟨rfl, g5⟩
    have HG := Lib.hid g5
    clear g5
    go_wp2_with fail
    exact bodyPost_ret (v := .tuple #[.slice ao L cap, .int .i64 0]) (by simp [results, Try.results100, go_sem]) rfl ⟨HG.out, .inr ⟨HR.out, rfl⟩⟩
  · have HC := Lib.hid (eright_no l L ao cap w h hL hr)
    have HR := Lib.hid hr
    clear h hL hr
    go_enter Try.func100, Try.ntmps100
    go_wp2_with fail
    refine HC.out.mono ?_
    rintro e w5 ⟨rfl, g5⟩
    have HG := Lib.hid g5
    clear g5
    go_wp2_with fail
    exact bodyPost_ret (v := .tuple #[.slice none 0 0, .int .i64 7]) (by simp [results, Try.results100, go_sem]) rfl ⟨HG.out, .inl ⟨HR.out, rfl⟩⟩
theorem one_right (e : Int × Int) : Right15 [e] ↔ (-1 ≤ e.1 ∧ e.1 ≤ 65536 ∧ 1 ≤ e.2 ∧ e.2 ≤ 65536) := by
  constructor
  · intro h; exact (okK_all h.2.1).1 e (by simp)
  · intro h
    exact ⟨by simp, okK_one rfl h, by simp [sumZ]; omega⟩
theorem holds_rd_one {W : World} {b : Nat} {x y : Int} {t : TypeId} (h : Holds W b #[.int .i64 x, .int .i64 y] t) : Rd2 W (some ⟨b, 0, none⟩) [(x, y)] := by
  intro i e hi
  match i, hi with
  | 0, hi => simp at hi; subst hi; exact ⟨b, 0, rfl, h.lt, h.cell 0, h.cell 1⟩
  | i + 1, hi => simp at hi

set_option maxHeartbeats 4000000 in
set_option maxRecDepth 20000 in
theorem eappend_any (l : List (Int × Int)) (L : Nat) (ao : Option Addr) (cap : Nat) (a n : Int) (w : World) (h : Sl2 w (.slice ao L cap) l) :
    Calls Try.prog 53 #[.slice ao L cap, .agg #[.int .i64 a, .int .i64 n]] w fun e w' => Gr [] w w' ∧
      ((¬ Right15 l ∧ e = .returned (.tuple #[.slice none 0 0, .int .i64 2])) ∨
       (Right15 l ∧ ¬ (Right15 [(a, n)] ∧ Right15 (joinP (l ++ [(a, n)]))) ∧ e = .returned (.tuple #[.slice none 0 0, .int .i64 7])) ∨
       (Right15 l ∧ Right15 [(a, n)] ∧ Right15 (joinP (l ++ [(a, n)])) ∧ ∃ ao' cap', e = .returned (.tuple #[.slice ao' (joinP (l ++ [(a, n)])).length cap', .int .i64 0]) ∧ Sl2 w' (.slice ao' (joinP (l ++ [(a, n)])).length cap') (joinP (l ++ [(a, n)])))) := by
  obtain ⟨hL, hrd, hcap, hmx, hnn⟩ := sl2_parts h
  have HBX := Lib.hid (Holds.new w #[.int .i64 a, .int .i64 n] 35)
  have HG0 := Lib.hid ((Gr.refl [] w).alloc (Obj.cells #[.int .i64 a, .int .i64 n] 35))
  have HL := Lib.hid hL
  have HCP := Lib.hid (And.intro hcap hnn)
  have HRD := Lib.hid hrd
  by_cases hr : Right15 l
  · have HC := Lib.hid (fun W (g : Gr [] w W) => eright_yes l L ao cap W (hrd.gr0 g) hL hr)
    have HR := Lib.hid hr
    clear h hrd hcap hmx hnn hL hr
    go_enter Try.func53, Try.ntmps53
    go_wp2_with fail
    generalize w.alloc (Obj.cells #[.int .i64 a, .int .i64 n] 35) = wa at *
    obtain ⟨b0, hb0⟩ : ∃ b, w.heap.size = b := ⟨_, rfl⟩
    rw [hb0] at HBX ⊢
    clear hb0
    refine (HC.out _ HG0.out).mono ?_
    rintro e w1 ⟨rfl, g1⟩
    have H1 := Lib.hid (And.intro (HBX.out.gr0 g1) (HG0.out.next0 g1))
    clear g1 HBX HG0 HC
    have c0 := H1.out.1.cell 0
    have c1 := H1.out.1.cell 1
    have HY := Lib.hid (holds_rd_one (Holds.new w1 #[.int .i64 a, .int .i64 n] 35))
    have HG2 := Lib.hid (H1.out.2.alloc (Obj.cells #[.int .i64 a, .int .i64 n] 35))
    go_wp2_with fail
    generalize w1.alloc (Obj.cells #[.int .i64 a, .int .i64 n] 35) = w2 at *
    obtain ⟨b1, hb1⟩ : ∃ b, w1.heap.size = b := ⟨_, rfl⟩
    rw [hb1] at HY ⊢
    clear hb1 c0 c1 H1
    by_cases he : Right15 [(a, n)]
    · have hbd := (one_right (a, n)).1 he
      simp only at hbd
      refine (eright_yes [(a, n)] 1 (some ⟨b1, 0, none⟩) 1 w2 HY.out rfl he).mono ?_
      rintro e w3 ⟨rfl, g3⟩
      have H3 := Lib.hid (And.intro (HG2.out.next0 g3) (HY.out.gr0 g3))
      have HE := Lib.hid he
      clear g3 HY HG2 he
      have hall : ∀ e ∈ l ++ [(a, n)], -1 ≤ e.1 ∧ e.1 ≤ 1000000 ∧ 1 ≤ e.2 ∧ e.2 ≤ 65536 := by
        intro e hm
        rcases List.mem_append.1 hm with q | q
        · have := (okK_all HR.out.2.1).1 e q; omega
        · simp at q; subst q; simp only; omega
      have HCAT := Lib.hid (show CatIn [(ao, cap, l), (some ⟨b1, 0, none⟩, 1, [(a, n)])] w3.heap.size (w3.alloc (Obj.cells #[.slice ao L cap, .slice (some ⟨b1, 0, none⟩) 1 1] 82)) from by
        have gx := (Gr.refl [] w3).alloc (Obj.cells #[.slice ao L cap, .slice (some ⟨b1, 0, none⟩) 1 1] 82)
        have X := Holds.new w3 #[.slice ao L cap, .slice (some ⟨b1, 0, none⟩) 1 1] 82
        refine ⟨fun i x hx => ?_, X.lt, fun x hx => ?_, fun x hx => ?_⟩
        · match i, hx with
          | 0, hx => simp at hx; subst hx; rw [← HL.out]; exact X.cell 0
          | 1, hx => simp at hx; subst hx; exact X.cell 1
          | i + 2, hx => simp at hx
        · simp at hx
          rcases hx with rfl | rfl
          · exact (HRD.out.gr0 H3.out.1).gr0 gx
          · exact H3.out.2.gr0 gx
        · simp at hx
          rcases hx with rfl | rfl
          · exact ⟨by rw [← HL.out]; exact HCP.out.1, HCP.out.2⟩
          · exact ⟨Nat.le_refl _, fun e => by cases e⟩)
      have HGC := Lib.hid (H3.out.1.alloc (Obj.cells #[.slice ao L cap, .slice (some ⟨b1, 0, none⟩) 1 1] 82))
      have HJ := Lib.hid (ejoin_any _ (l ++ [(a, n)]) _ 2 _ (by simp [catP]) HCAT.out (by simp) (by have := HR.out.1; simp; omega) hall)
      clear hall hbd
      go_wp2_with fail
      refine HJ.out.mono ?_
      rintro e w4 ⟨ao', cap', rfl, ho4, g4⟩
      obtain ⟨RL, hRL⟩ : ∃ RL, RL = joinP (l ++ [(a, n)]) := ⟨_, rfl⟩
      have HRL := Lib.hid hRL
      rw [← hRL] at ho4 ⊢
      have hs4 := own_sl2 ho4
      have H4 := Lib.hid (And.intro (HGC.out.next0 g4) hs4)
      clear ho4 g4 hRL HJ HCAT HGC H3 hs4
      go_wp2_with fail
      refine (evalid_any RL RL.length ao' cap' w4 (sl2_parts H4.out.2).2.1 rfl).mono ?_
      rintro e w5 ⟨g5, ⟨hno, rfl⟩ | ⟨hyes, rfl⟩⟩
      · have H5 := Lib.hid (H4.out.1.next0 g5)
        have HNO := Lib.hid hno
        clear g5 hno
        go_wp2_with fail
        exact bodyPost_ret (v := .tuple #[.slice none 0 0, .int .i64 7]) (by simp [results, Try.results53, go_sem]) rfl ⟨H5.out, .inr (.inl ⟨HR.out, fun q => HNO.out (by rw [HRL.out]; exact q.2), rfl⟩)⟩
      · have H5 := Lib.hid (And.intro (H4.out.1.next0 g5) (H4.out.2.gr0 g5))
        have HYE := Lib.hid hyes
        clear g5 hyes
        go_wp2_with fail
        exact bodyPost_ret (v := .tuple #[.slice ao' RL.length cap', .int .i64 0]) (by simp [results, Try.results53, go_sem]) rfl ⟨H5.out.1, .inr (.inr ⟨HR.out, HE.out, by rw [← HRL.out]; exact HYE.out, ao', cap', by rw [← HRL.out], by rw [← HRL.out]; exact H5.out.2⟩)⟩
    · refine (eright_no [(a, n)] 1 (some ⟨b1, 0, none⟩) 1 w2 HY.out rfl he).mono ?_
      rintro e w3 ⟨rfl, g3⟩
      have H3 := Lib.hid (HG2.out.next0 g3)
      have HE := Lib.hid he
      clear g3 HY HG2 he
      go_wp2_with fail
      exact bodyPost_ret (v := .tuple #[.slice none 0 0, .int .i64 7]) (by simp [results, Try.results53, go_sem]) rfl ⟨H3.out, .inr (.inl ⟨HR.out, fun q => HE.out q.1, rfl⟩)⟩
  · have HC := Lib.hid (fun W (g : Gr [] w W) => eright_no l L ao cap W (hrd.gr0 g) hL hr)
    have HR := Lib.hid hr
    clear h hrd hcap hmx hnn hL hr
    go_enter Try.func53, Try.ntmps53
    go_wp2_with fail
    refine (HC.out _ HG0.out).mono ?_
    rintro e w1 ⟨rfl, g1⟩
    have H1 := Lib.hid (HG0.out.next0 g1)
    clear g1
    go_wp2_with fail
    exact bodyPost_ret (v := .tuple #[.slice none 0 0, .int .i64 2]) (by simp [results, Try.results53, go_sem]) rfl ⟨H1.out, .inl ⟨HR.out, rfl⟩⟩

theorem minZ (P : Program) (x y m : Int) (h : m = min x y) (ts : Array TypeId) (t : TypeId) (w : World) : (Builtin.min_ ts t #[.int .i64 x, .int .i64 y]).run P w = .ok (.int .i64 m) w := by
  rw [run_min_int2]
  have : (if y < x then y else x) = m := by split <;> omega
  rw [this]
/-- Two rows that a call makes at the same time. -/
structure Two (w W : World) (vF vR : Value) (F R : List (Int × Int)) : Prop where
  f : W.ownsRow w.heap.size 35 2 vF F.length (cells2 F)
  r : W.ownsRow w.heap.size 35 2 vR R.length (cells2 R)
  ne : ∀ g, vF.ownBlock = some g → vR.ownBlock ≠ some g
  gr : Gr [] w W
theorem Two.gr0 {w W W' : World} {vF vR : Value} {F R : List (Int × Int)} (h : Two w W vF vR F R) (g : Gr [] W W') : Two w W' vF vR F R := ⟨own_gr0 h.f g, own_gr0 h.r g, h.ne, h.gr.next0 g⟩
theorem Two.swap {w W : World} {vF vR : Value} {F R : List (Int × Int)} (h : Two w W vF vR F R) : Two w W vR vF R F := ⟨h.r, h.f, fun g h1 h2 => h.ne g h2 h1, h.gr⟩
/-- One more in the first of them. -/
theorem Two.more {w W W' : World} {vF vR : Value} {F R : List (Int × Int)} {x : Int × Int} {g c : Nat} (h : Two w W vF vR F R) (ho : W'.ownsRow w.heap.size 35 2 (.slice (some ⟨g, 0, none⟩) (F.length + 1) c) (F.length + 1) (cells2 F ++ [.int .i64 x.1, .int .i64 x.2])) (hg : W.grownBy W' vF.ownBlock) (hat : vF.ownBlock = some g ∨ g = W.heap.size) :
    Two w W' (.slice (some ⟨g, 0, none⟩) (F.length + 1) c) vR (F ++ [x]) R := by
  refine ⟨?_, own_gr h.r (gr_grown hg) (fun b hb hm => ?_), fun g' h1 h2 => ?_, h.gr.nextN (gr_grown hg) (fun y hy => .inr (h.f.lt y (by simpa using hy)).1)⟩
  · rw [List.length_append, cells2_append]; exact ho
  · exact h.ne b (by simpa using hm) hb
  · have e1 : g = g' := by simpa [Value.ownBlock] using h1
    subst e1
    rcases hat with q | q
    · exact h.ne g q h2
    · have := (h.r.lt g h2).2; omega

set_option maxHeartbeats 8000000 in
set_option maxRecDepth 20000 in
theorem esplit_any (l : List (Int × Int)) (L n : Nat) (ao : Option Addr) (cap : Nat) (w : World) (h : Rd2 w ao l) (hL : L = l.length) (hL70 : L ≤ 100) (hb : ∀ e ∈ l, -1 ≤ e.1 ∧ e.1 ≤ 1000000 ∧ 1 ≤ e.2 ∧ e.2 ≤ 65536) (hn : n ≤ 100000000) :
    Calls Try.prog 102 #[.slice ao L cap, .int .i64 n] w fun e w' => ∃ vF vR, e = .returned (.tuple #[vF, vR]) ∧ Two w w' vF vR (firstP l n) (restP l n) := by
  obtain ⟨i0, hi0, hz0, hz1, hz2⟩ := info_parts infoExt
  have HR := Lib.hid h
  have HL := Lib.hid hL
  have HB := Lib.hid hb
  clear h hL hb
  go_enter Try.func102, Try.ntmps102
  go_wp2_with fail
  go_loopw [1, 6, 7, 13] (fun nv vF vR i wr => ∃ (k r : Nat) (F R : List (Int × Int)), k ≤ L ∧ i = .int .i64 k ∧ nv = .int .i64 r ∧ r ≤ n ∧ F.length ≤ k ∧ R.length ≤ k ∧ Hid (F ++ firstP (l.drop k) r = firstP l n) ∧ Hid (R ++ restP (l.drop k) r = restP l n) ∧ Two w wr vF vR F R) (fun _ _ _ i _ => L - (intOf i).toNat)
  case atStart => exact ⟨0, n, [], [], by omega, rfl, rfl, Nat.le_refl _, Nat.le_refl _, Nat.le_refl _, Lib.hid rfl, Lib.hid rfl, World.ownsRow_nil _ _ _ _, World.ownsRow_nil _ _ _ _, fun g q => (by cases q), Gr.refl _ _⟩
  case round =>
    obtain ⟨k, r, F, R, hk, rfl, rfl, hrn, hFl, hRl, HF, HRR, T⟩ := hrel
    have HT := Lib.hid T
    have hszw := T.gr.size
    obtain ⟨aF, cF, hvF⟩ := own_form T.f
    obtain ⟨aR, cR, hvR⟩ := own_form T.r
    clear T
    subst hvF hvR
    by_cases hkL : k < L
    · have hkL2 : (k : Int) < (L : Int) := by omega
      obtain ⟨⟨e1, e2⟩, he⟩ : ∃ e, l[k]? = some e := ⟨_, List.getElem?_eq_getElem (by have := HL.out; omega)⟩
      obtain ⟨b, o, hao, hbk, x0, x1⟩ := HR.out k _ he
      have y0 : wr.cell? ⟨b, o + k * 2, none⟩ = some (.int .i64 e1) := (HT.out.gr.cell0 hbk).trans x0
      have y1 : wr.cell? ⟨b, o + k * 2 + 1, none⟩ = some (.int .i64 e2) := (HT.out.gr.cell0 hbk).trans x1
      have hm := HB.out _ (List.mem_of_getElem? he)
      simp only at hm
      have hfa := firstP_at he (r : Int)
      have hra := restP_at he (r : Int)
      simp only at hfa hra
      rw [hfa] at HF
      rw [hra] at HRR
      have HBX := Lib.hid (Holds.new wr #[.int .i64 e1, .int .i64 e2] 35)
      have HTB := Lib.hid (HT.out.gr0 ((Gr.refl [] wr).alloc (Obj.cells #[.int .i64 e1, .int .i64 e2] 35)))
      have hszb : w.heap.size ≤ (wr.alloc (Obj.cells #[.int .i64 e1, .int .i64 e2] 35)).heap.size := HTB.out.gr.size
      have HNB := Lib.hid (show (Value.slice aF F.length cF).ownBlock ≠ some wr.heap.size ∧ (Value.slice aR R.length cR).ownBlock ≠ some wr.heap.size from ⟨fun q => by have := (HT.out.f.lt _ q).2; omega, fun q => by have := (HT.out.r.lt _ q).2; omega⟩)
      obtain ⟨m, hmm⟩ : ∃ m : Nat, (m : Int) = min (r : Int) e2 := ⟨(min (r : Int) e2).toNat, by omega⟩
      have hmn := minZ Try.prog (r : Int) e2 (m : Int) hmm
      rw [← hmm] at HF HRR
      obtain ⟨r2, hr2⟩ : ∃ r2 : Nat, (r : Int) - (m : Int) = (r2 : Int) := ⟨r - m, by omega⟩
      have hr3 : IntKind.i64.wrap (r2 : Int) = (r2 : Int) := IntWalk.i64_in _ (by omega)
      rw [hr2] at HF HRR
      have hr4 : r2 ≤ n := by omega
      have hm1 : (m : Int) ≤ e2 := by omega
      have hm2 : m ≤ r := by omega
      subst hao
      clear hfa hra x0 x1 he HT hmm
      by_cases h0 : 0 < m
      · have d0 : decide ((0 : Int) < (m : Int)) = true := decide_eq_true (by omega)
        have d0n : decide (0 < m) = true := decide_eq_true h0
        rw [if_pos (show (0 : Int) < (m : Int) by omega)] at HF
        by_cases h1 : (m : Int) < e2
        · have d1 : decide ((m : Int) < e2) = true := decide_eq_true h1
          rw [if_pos h1] at HRR
          have HN3 := Lib.hid (Holds.new (wr.alloc (Obj.cells #[.int .i64 e1, .int .i64 e2] 35)) #[.int .i64 e1, .int .i64 m] 35)
          rw [World.size_alloc] at HN3
          have HO3 := Lib.hid (HTB.out.gr0 ((Gr.refl [] (wr.alloc (Obj.cells #[.int .i64 e1, .int .i64 e2] 35))).alloc (Obj.cells #[.int .i64 e1, .int .i64 m] 35)))
          have HB3 := Lib.hid (HBX.out.gr0 ((Gr.refl [] (wr.alloc (Obj.cells #[.int .i64 e1, .int .i64 e2] 35))).alloc (Obj.cells #[.int .i64 e1, .int .i64 m] 35)))
          have z0 := HBX.out.cell 0
          have z1 := HBX.out.cell 1
          have hone : ∀ u ∈ [Value.int .i64 e1, .int .i64 (m : Int)], u.oneCell' = true := by simp [Value.oneCell']
          go_wp2_with (at_builtin; refine wpList_append_lies _ rfl _ _ 82 rfl w.heap.size 35 i0 _ 2 16 Try.underlying82 hi0 hz0 hz1 hz2 rfl (by decide) _ _ _ rfl HO3.out.f ⟨wr.heap.size + 1, 0, none⟩ 1 1 [.int .i64 e1, .int .i64 m] rfl rfl (World.news_of_block HN3.out) hone (by decide) (by unfold maxLen; omega) (by omega) (by rw [World.size_alloc]; omega) _ rfl ?_)
          intro g4 cp4 w4 hown4 hgrow4 hat4 hlt4
          have HT4 := Lib.hid (HO3.out.more (x := (e1, (m : Int))) hown4 hgrow4 (hat4.imp id (fun q => by rw [q, World.size_alloc, World.size_alloc])))
          have HX4 := Lib.hid (HB3.out.gr (gr_grown hgrow4) (fun q => HNB.out.1 (by simpa using q)))
          have HNR := Lib.hid HNB.out.2
          have hF1 : (F ++ [(e1, (m : Int))]).length ≤ k + 1 := by simp; omega
          have hsz4 : w.heap.size ≤ w4.heap.size := HT4.out.gr.size
          have HFN := Lib.hid (show (F ++ [(e1, (m : Int))]) ++ firstP (l.drop (k + 1)) r2 = firstP l n by rw [List.append_assoc]; exact HF.out)
          clear hown4 hgrow4 hat4 hlt4 HO3 HN3 HB3 hone z0 z1 HTB HBX HNB HF y0 y1 hszb
          obtain ⟨F4, hF4⟩ : ∃ F4, F4 = F ++ [(e1, (m : Int))] := ⟨_, rfl⟩
          rw [← hF4] at HT4 hF1 HFN
          have HF4 := Lib.hid (show F4.length = F.length + 1 by rw [hF4]; simp)
          clear hF4
          obtain ⟨b9, hb9⟩ : ∃ b, wr.heap.size = b := ⟨_, rfl⟩
          rw [hb9] at HX4 HNR ⊢
          clear hb9
          have i4 : IntKind.i64.wrap (e2 - (m : Int)) = e2 - (m : Int) := IntWalk.i64_in _ (by omega)
          have HW := Lib.hid (IntWalk.i64_in (e1 + (m : Int)) (by omega))
          have HCL := Lib.hid (fun (W : World) (g : Gr [] w4 W) => And.intro (show W.cell? ⟨b9, 0, none⟩ = some (.int .i64 e1) from (HX4.out.gr0 g).cell 0) (show W.cell? ⟨b9, 1, none⟩ = some (.int .i64 e2) from (HX4.out.gr0 g).cell 1))
          have hone : ∀ u ∈ [Value.int .i64 (spotP (e1, e2) m), .int .i64 (e2 - (m : Int))], u.oneCell' = true := by simp [Value.oneCell']
          have two_pos : 0 < 2 := by decide
          have small1 : R.length + 1 ≤ maxLen := by unfold maxLen; omega
          have small2 : (R.length + 1) * 16 ≤ 140737488355328 := by omega
          have z0 := HX4.out.cell 0
          have z1 := HX4.out.cell 1
          go_wp2_with fail
          clear z0 z1
          have kc : Gr [] w4 w4.drew := (Gr.refl [] w4).drew
          have sc := HCL.out _ kc
          go_region_held3 (fun w' : World => w'.cell? ⟨b9, 0, none⟩ = some (.int .i64 e1) ∧ w'.cell? ⟨b9, 1, none⟩ = some (.int .i64 e2)) (first | assumption | go_keep) ((first
            | (go_at_call 98; refine (espot_any e1 e2 m _ HW.out).mono ?_; rintro r5 wn ⟨rfl, gn⟩; replace kc := kc.next0 gn; have sc := HCL.out _ kc; clear gn)
            | (have hT3 := (HT4.out.gr0 kc).gr0 ((Gr.refl [] wn).alloc (Obj.cells #[.int .i64 (spotP (e1, e2) m), .int .i64 (e2 - (m : Int))] 35)); have hb3 : w.heap.size ≤ (wn.alloc (Obj.cells #[.int .i64 (spotP (e1, e2) m), .int .i64 (e2 - (m : Int))] 35)).heap.size := hT3.gr.size; have hn3 := World.news_of_block (Holds.new wn #[.int .i64 (spotP (e1, e2) m), .int .i64 (e2 - (m : Int))] 35); refine step_append_lies _ rfl _ _ 82 rfl w.heap.size 35 i0 _ 2 16 Try.underlying82 hi0 hz0 hz1 hz2 rfl two_pos (.slice aR R.length cR) R.length (cells2 R) rfl hT3.r ⟨wn.heap.size, 0, none⟩ 1 1 [.int .i64 (spotP (e1, e2) m), .int .i64 (e2 - (m : Int))] rfl rfl hn3 hone Nat.one_pos small1 small2 hb3 _ rfl ?_; intro g6 cp6 w6 hown6 hgrow6 hat6 hlt6; have hx6 := ((HX4.out.gr0 kc).gr0 ((Gr.refl [] wn).alloc (Obj.cells #[.int .i64 (spotP (e1, e2) m), .int .i64 (e2 - (m : Int))] 35))).gr (gr_grown hgrow6) (fun q => HNR.out (by simpa using q)); have s6a : w6.cell? ⟨b9, 0, none⟩ = some (.int .i64 e1) := hx6.cell 0; have s6b : w6.cell? ⟨b9, 1, none⟩ = some (.int .i64 e2) := hx6.cell 1; have HT6 := Lib.hid (hT3.swap.more (x := (spotP (e1, e2) m, e2 - (m : Int))) hown6 hgrow6 (hat6.imp id (fun q => q.trans rfl))).swap; clear hown6 hgrow6 hat6 hlt6 hT3 hb3 hn3)))
          have hR1 : (R ++ [(spotP (e1, e2) m, e2 - (m : Int))]).length ≤ k + 1 := by simp; omega
          have HRN := Lib.hid (show (R ++ [(spotP (e1, e2) m, e2 - (m : Int))]) ++ restP (l.drop (k + 1)) r2 = restP l n by rw [List.append_assoc]; exact HRR.out)
          go_wp2_with fail
          go_roundw
          case rel => exact ⟨k + 1, r2, _, _, by omega, by go_num, rfl, hr4, hF1, hR1, HFN, HRN, HT6.out⟩
          case measure => simp [intOf]; omega
        · have d1 : decide ((m : Int) < e2) = false := decide_eq_false h1
          rw [if_neg h1] at HRR
          have HN3 := Lib.hid (Holds.new (wr.alloc (Obj.cells #[.int .i64 e1, .int .i64 e2] 35)) #[.int .i64 e1, .int .i64 m] 35)
          rw [World.size_alloc] at HN3
          have HO3 := Lib.hid (HTB.out.gr0 ((Gr.refl [] (wr.alloc (Obj.cells #[.int .i64 e1, .int .i64 e2] 35))).alloc (Obj.cells #[.int .i64 e1, .int .i64 m] 35)))
          have HB3 := Lib.hid (HBX.out.gr0 ((Gr.refl [] (wr.alloc (Obj.cells #[.int .i64 e1, .int .i64 e2] 35))).alloc (Obj.cells #[.int .i64 e1, .int .i64 m] 35)))
          have z0 := HBX.out.cell 0
          have z1 := HBX.out.cell 1
          have hone : ∀ u ∈ [Value.int .i64 e1, .int .i64 (m : Int)], u.oneCell' = true := by simp [Value.oneCell']
          go_wp2_with (at_builtin; refine wpList_append_lies _ rfl _ _ 82 rfl w.heap.size 35 i0 _ 2 16 Try.underlying82 hi0 hz0 hz1 hz2 rfl (by decide) _ _ _ rfl HO3.out.f ⟨wr.heap.size + 1, 0, none⟩ 1 1 [.int .i64 e1, .int .i64 m] rfl rfl (World.news_of_block HN3.out) hone (by decide) (by unfold maxLen; omega) (by omega) (by rw [World.size_alloc]; omega) _ rfl ?_)
          intro g4 cp4 w4 hown4 hgrow4 hat4 hlt4
          have HT4 := Lib.hid (HO3.out.more (x := (e1, (m : Int))) hown4 hgrow4 (hat4.imp id (fun q => by rw [q, World.size_alloc, World.size_alloc])))
          have HX4 := Lib.hid (HB3.out.gr (gr_grown hgrow4) (fun q => HNB.out.1 (by simpa using q)))
          have HNR := Lib.hid HNB.out.2
          have hF1 : (F ++ [(e1, (m : Int))]).length ≤ k + 1 := by simp; omega
          have hsz4 : w.heap.size ≤ w4.heap.size := HT4.out.gr.size
          have HFN := Lib.hid (show (F ++ [(e1, (m : Int))]) ++ firstP (l.drop (k + 1)) r2 = firstP l n by rw [List.append_assoc]; exact HF.out)
          clear hown4 hgrow4 hat4 hlt4 HO3 HN3 HB3 hone z0 z1 HTB HBX HNB HF y0 y1 hszb
          obtain ⟨F4, hF4⟩ : ∃ F4, F4 = F ++ [(e1, (m : Int))] := ⟨_, rfl⟩
          rw [← hF4] at HT4 hF1 HFN
          have HF4 := Lib.hid (show F4.length = F.length + 1 by rw [hF4]; simp)
          clear hF4
          obtain ⟨b9, hb9⟩ : ∃ b, wr.heap.size = b := ⟨_, rfl⟩
          rw [hb9] at HX4 HNR ⊢
          clear hb9
          have z0 := HX4.out.cell 0
          have z1 := HX4.out.cell 1
          have HRN := Lib.hid (show R ++ restP (l.drop (k + 1)) r2 = restP l n from HRR.out)
          go_wp2_with fail
          go_roundw
          case rel => exact ⟨k + 1, r2, _, R, by omega, by go_num, rfl, hr4, hF1, by omega, HFN, HRN, HT4.out⟩
          case measure => simp [intOf]; omega
      · have hm0 : m = 0 := by omega
        rw [if_neg (show ¬ (0 : Int) < (m : Int) by omega)] at HF
        have h1 : (m : Int) < e2 := by omega
        have d1 : decide ((m : Int) < e2) = true := decide_eq_true h1
        rw [if_pos h1] at HRR
        have d0 : decide ((0 : Int) < (m : Int)) = false := decide_eq_false (by omega)
        have d0n : decide (0 < m) = false := decide_eq_false h0
        clear h0 hm0
        have HT4 := Lib.hid HTB.out
        have HX4 := Lib.hid HBX.out
        have HNR := Lib.hid HNB.out.2
        have hF1 : F.length ≤ k + 1 := by omega
        have hsz4 := hszb
        have HFN := Lib.hid (show F ++ firstP (l.drop (k + 1)) r2 = firstP l n from HF.out)
        have z0 := HBX.out.cell 0
        have z1 := HBX.out.cell 1
        go_wp2_with fail
        clear z0 z1 HTB HBX HNB HF y0 y1 hszb
        generalize (wr.alloc (Obj.cells #[.int .i64 e1, .int .i64 e2] 35)) = w4 at *
        obtain ⟨b9, hb9⟩ : ∃ b, wr.heap.size = b := ⟨_, rfl⟩
        rw [hb9] at HX4 HNR ⊢
        clear hb9
        have i4 : IntKind.i64.wrap (e2 - (m : Int)) = e2 - (m : Int) := IntWalk.i64_in _ (by omega)
        have HW := Lib.hid (IntWalk.i64_in (e1 + (m : Int)) (by omega))
        have HCL := Lib.hid (fun (W : World) (g : Gr [] w4 W) => And.intro (show W.cell? ⟨b9, 0, none⟩ = some (.int .i64 e1) from (HX4.out.gr0 g).cell 0) (show W.cell? ⟨b9, 1, none⟩ = some (.int .i64 e2) from (HX4.out.gr0 g).cell 1))
        have hone : ∀ u ∈ [Value.int .i64 (spotP (e1, e2) m), .int .i64 (e2 - (m : Int))], u.oneCell' = true := by simp [Value.oneCell']
        have two_pos : 0 < 2 := by decide
        have small1 : R.length + 1 ≤ maxLen := by unfold maxLen; omega
        have small2 : (R.length + 1) * 16 ≤ 140737488355328 := by omega
        have z0 := HX4.out.cell 0
        have z1 := HX4.out.cell 1
        go_wp2_with fail
        clear z0 z1
        have kc : Gr [] w4 w4.drew := (Gr.refl [] w4).drew
        have sc := HCL.out _ kc
        go_region_held3 (fun w' : World => w'.cell? ⟨b9, 0, none⟩ = some (.int .i64 e1) ∧ w'.cell? ⟨b9, 1, none⟩ = some (.int .i64 e2)) (first | assumption | go_keep) ((first
          | (go_at_call 98; refine (espot_any e1 e2 m _ HW.out).mono ?_; rintro r5 wn ⟨rfl, gn⟩; replace kc := kc.next0 gn; have sc := HCL.out _ kc; clear gn)
          | (have hT3 := (HT4.out.gr0 kc).gr0 ((Gr.refl [] wn).alloc (Obj.cells #[.int .i64 (spotP (e1, e2) m), .int .i64 (e2 - (m : Int))] 35)); have hb3 : w.heap.size ≤ (wn.alloc (Obj.cells #[.int .i64 (spotP (e1, e2) m), .int .i64 (e2 - (m : Int))] 35)).heap.size := hT3.gr.size; have hn3 := World.news_of_block (Holds.new wn #[.int .i64 (spotP (e1, e2) m), .int .i64 (e2 - (m : Int))] 35); refine step_append_lies _ rfl _ _ 82 rfl w.heap.size 35 i0 _ 2 16 Try.underlying82 hi0 hz0 hz1 hz2 rfl two_pos (.slice aR R.length cR) R.length (cells2 R) rfl hT3.r ⟨wn.heap.size, 0, none⟩ 1 1 [.int .i64 (spotP (e1, e2) m), .int .i64 (e2 - (m : Int))] rfl rfl hn3 hone Nat.one_pos small1 small2 hb3 _ rfl ?_; intro g6 cp6 w6 hown6 hgrow6 hat6 hlt6; have hx6 := ((HX4.out.gr0 kc).gr0 ((Gr.refl [] wn).alloc (Obj.cells #[.int .i64 (spotP (e1, e2) m), .int .i64 (e2 - (m : Int))] 35))).gr (gr_grown hgrow6) (fun q => HNR.out (by simpa using q)); have s6a : w6.cell? ⟨b9, 0, none⟩ = some (.int .i64 e1) := hx6.cell 0; have s6b : w6.cell? ⟨b9, 1, none⟩ = some (.int .i64 e2) := hx6.cell 1; have HT6 := Lib.hid (hT3.swap.more (x := (spotP (e1, e2) m, e2 - (m : Int))) hown6 hgrow6 (hat6.imp id (fun q => q.trans rfl))).swap; clear hown6 hgrow6 hat6 hlt6 hT3 hb3 hn3)))
        have hR1 : (R ++ [(spotP (e1, e2) m, e2 - (m : Int))]).length ≤ k + 1 := by simp; omega
        have HRN := Lib.hid (show (R ++ [(spotP (e1, e2) m, e2 - (m : Int))]) ++ restP (l.drop (k + 1)) r2 = restP l n by rw [List.append_assoc]; exact HRR.out)
        go_wp2_with fail
        go_roundw
        case rel => exact ⟨k + 1, r2, _, _, by omega, by go_num, rfl, hr4, hF1, hR1, HFN, HRN, HT6.out⟩
        case measure => simp [intOf]; omega
    · obtain rfl : k = L := by omega
      have hd : l.drop k = [] := by rw [HL.out]; exact List.drop_length
      rw [hd] at HF HRR
      have HFF := Lib.hid (show F = firstP l n by have := HF.out; simpa [firstP] using this)
      have HRF := Lib.hid (show R = restP l n by have := HRR.out; simpa [restP] using this)
      clear hd HF HRR
      go_wp2_with fail
      exact bodyPost_ret (v := .tuple #[.slice aF F.length cF, .slice aR R.length cR]) (by simp [results, Try.results102, go_sem]) rfl ⟨_, _, rfl, by rw [← HFF.out, ← HRF.out]; exact HT.out⟩

end Go.Proofs.Ytpkhfdcokcchdaa
