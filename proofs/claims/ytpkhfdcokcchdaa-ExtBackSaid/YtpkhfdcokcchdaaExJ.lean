/-
  Layer 15: Cut and Fill.
-/
import Derived.Test.YtpkhfdcokcchdaaExI
namespace Go.Proofs.Ytpkhfdcokcchdaa
open Go.RowKit

theorem own_parts {w : World} {base : Nat} {e : TypeId} {v : Value} {l : List (Int × Int)} (h : w.ownsRow base e 2 v l.length (cells2 l)) : ∃ ao cap, v = .slice ao l.length cap ∧ Rd2 w ao l ∧ l.length ≤ cap ∧ (ao = none → cap = 0) := by
  obtain ⟨ao, cap, h1, h2, h3, _, h5⟩ := own_sl2 h
  exact ⟨ao, cap, h1, h2, h3, h5⟩
theorem Right15.all {l : List (Int × Int)} (h : Right15 l) : ∀ e ∈ l, -1 ≤ e.1 ∧ e.1 ≤ 65536 ∧ 1 ≤ e.2 ∧ e.2 ≤ 65536 := (okK_all h.2.1).1
theorem Right15.apart {l : List (Int × Int)} (h : Right15 l) : apartP l = true := (okK_all h.2.1).2

set_option maxHeartbeats 2000000 in
theorem ecut_yes (l : List (Int × Int)) (L n : Nat) (ao : Option Addr) (cap : Nat) (w : World) (h : Sl2 w (.slice ao L cap) l) (hr : Right15 l) (hn : (n : Int) ≤ sumZ l) :
    Calls Try.prog 57 #[.slice ao L cap, .int .i64 n] w fun e w' => ∃ vF vR, e = .returned (.tuple #[vF, vR, .int .i64 0]) ∧ Sl2 w' vF (firstP l n) ∧ Sl2 w' vR ((restP l n).filter solidB) ∧ Gr [] w w' := by
  obtain ⟨hL, hrd, hcap, hmx, hnn⟩ := sl2_parts h
  have HR := Lib.hid hrd
  have HL := Lib.hid hL
  have HT := Lib.hid hr
  have HN := Lib.hid hn
  have HC := Lib.hid (eright_yes l L ao cap w hrd hL hr)
  obtain ⟨s, hs⟩ : ∃ s, s = sumZ l := ⟨_, rfl⟩
  have HS := Lib.hid hs
  have hs2 : s ≤ 65536 := by rw [hs]; exact hr.2.2
  rw [← hs] at hn
  have hgt : ¬ (s < (n : Int)) := by omega
  have d1 : decide ((n : Int) < 0) = false := decide_eq_false (by omega)
  clear h hrd hcap hmx hnn hL hr hs
  go_enter Try.func57, Try.ntmps57
  go_wp2_with fail
  refine HC.out.mono ?_
  rintro e w1 ⟨rfl, g1⟩
  have H1 := Lib.hid g1
  clear g1 HC
  go_wp2_with fail
  refine (eblocks_any l L s ao cap w1 (HR.out.gr0 H1.out) HL.out HT.out.small HS.out).mono ?_
  rintro e w2 ⟨rfl, g2⟩
  have H2 := Lib.hid (H1.out.next0 g2)
  clear g2 H1
  go_wp2_with fail
  refine (esplit_any l L n ao cap w2 (HR.out.gr0 H2.out) HL.out (by have := HT.out.1; have := HL.out; omega) (fun e he => by have := HT.out.all e he; omega) (by omega)).mono ?_
  rintro e w3 ⟨vF, vR, rfl, T⟩
  have HTW := Lib.hid T
  have HSP := Lib.hid (split_ok (n := (n : Int)) (B := 65536) (by omega) HT.out.all HT.out.apart)
  clear T d1 hgt
  go_wp2_with fail
  refine (edelete_any (restP l n) (restP l n).length w2.heap.size vR w3 HTW.out.r (by have := HSP.out.2.2.2.2.2.1; have := HT.out.1; omega)).mono ?_
  rintro e w4 ⟨vR', rfl, ho, g4⟩
  have HOF := Lib.hid (own_sl2 (own_gr HTW.out.f g4 (fun b hb hm => HTW.out.ne b hb (by simpa using hm))))
  have HOR := Lib.hid (own_sl2 ho)
  have HG := Lib.hid (H2.out.next0 (HTW.out.gr.nextN g4 (fun y hy => .inr (HTW.out.r.lt y (by simpa using hy)).1)))
  clear ho g4
  go_wp2_with fail
  exact bodyPost_ret (v := .tuple #[vF, vR', .int .i64 0]) (by simp [results, Try.results57, go_sem]) rfl ⟨vF, vR', rfl, HOF.out, HOR.out, HG.out⟩

def fillP (l : List (Int × Int)) (i n : Nat) (a : Int) : List (Int × Int) := firstP l i ++ [(a, (n : Int))] ++ restP (restP l i) n
set_option maxHeartbeats 4000000 in
set_option maxRecDepth 20000 in
theorem efill_ok (l : List (Int × Int)) (L i n : Nat) (a : Int) (ao : Option Addr) (cap : Nat) (w : World) (h : Sl2 w (.slice ao L cap) l) (hr : Right15 l) (ha : 0 ≤ a) (ha2 : a ≤ 1000000) (hn1 : 1 ≤ n) (hn : (i : Int) + n ≤ sumZ l) :
    Calls Try.prog 55 #[.slice ao L cap, .int .i64 i, .agg #[.int .i64 a, .int .i64 n]] w fun e w' => Gr [] w w' ∧
      ((0 < heldZ (firstP (restP l i) n) ∧ e = .returned (.tuple #[.slice none 0 0, .int .i64 2])) ∨
       (heldZ (firstP (restP l i) n) ≤ 0 ∧ ¬ Right15 (joinP (fillP l i n a)) ∧ e = .returned (.tuple #[.slice none 0 0, .int .i64 7])) ∨
       (heldZ (firstP (restP l i) n) ≤ 0 ∧ Right15 (joinP (fillP l i n a)) ∧ ∃ ao' cap', e = .returned (.tuple #[.slice ao' (joinP (fillP l i n a)).length cap', .int .i64 0]) ∧ Sl2 w' (.slice ao' (joinP (fillP l i n a)).length cap') (joinP (fillP l i n a)))) := by
  obtain ⟨hL, hrd, hcap, hmx, hnn⟩ := sl2_parts h
  have HR := Lib.hid hrd
  have HL := Lib.hid hL
  have HT := Lib.hid hr
  obtain ⟨s, hs⟩ : ∃ s, s = sumZ l := ⟨_, rfl⟩
  have HS := Lib.hid hs
  have hs2 : s ≤ 65536 := by rw [hs]; exact hr.2.2
  rw [← hs] at hn
  have HSP := Lib.hid (split_ok (n := (i : Int)) (B := 65536) (by omega) HT.out.all HT.out.apart)
  have HSQ := Lib.hid (split_ok (n := (n : Int)) (B := 131072) (by omega) HSP.out.2.1 HSP.out.2.2.2.1)
  have HBX := Lib.hid (Holds.new w #[.int .i64 a, .int .i64 n] 35)
  have HG0 := Lib.hid ((Gr.refl [] w).alloc (Obj.cells #[.int .i64 a, .int .i64 n] 35))
  clear h hrd hcap hmx hnn hL hr hs
  go_enter Try.func55, Try.ntmps55
  go_wp2_with fail
  have k0 := kp_cell (HBX.out.cell 0)
  have k1 := kp_cell (HBX.out.cell 1)
  generalize w.alloc (Obj.cells #[.int .i64 a, .int .i64 n] 35) = w1 at *
  obtain ⟨b0, hb0⟩ : ∃ b, w.heap.size = b := ⟨_, rfl⟩
  rw [hb0] at HBX k0 k1 ⊢
  clear hb0
  have hne := kp_ne w1
  have P1 := Lib.hid (fun x : Cls (Kp w1) => kcall_of (eright_yes l L ao cap x.w (HR.out.gr0 (HG0.out.nextB x.h)) HL.out HT.out))
  have P2 := Lib.hid (fun x : Cls (Kp w1) => kcall_of (eblocks_any l L s ao cap x.w (HR.out.gr0 (HG0.out.nextB x.h)) HL.out HT.out.small HS.out))
  have d0 : ¬ a < 0 := by omega
  have d1 : ¬ (n : Int) < 1 := by omega
  have d2 : ¬ s < (n : Int) := by omega
  have d3 : IntKind.i64.wrap (s - (n : Int)) = s - (n : Int) := IntWalk.i64_in _ (by omega)
  have d4 : ¬ s - (n : Int) < (i : Int) := by omega
  have d5 : decide ((i : Int) < 0) = false := decide_eq_false (by omega)
  refine wp_region_kp (by kernel_rfl) (by kernel_rfl) ?_
  repeat (go_big_quiet_step ((rename_i x; first
    | (with_reducible exact kp_call x (P1.out x))
    | (with_reducible exact kp_call x (P2.out x)))))
  with_reducible refine wpQuiet_nil ?_
  rintro _ ⟨y, rfl⟩
  have H1 := Lib.hid (And.intro (HBX.out.gr0 ((Gr.refl [] w1).nextB y.h)) (HG0.out.nextB y.h))
  clear k0 k1 hne P1 P2 HBX HG0
  generalize y.w = w2 at *
  clear y
  go_wp2_with fail
  refine (esplit_any l L i ao cap w2 (HR.out.gr0 H1.out.2) HL.out (by have := HT.out.1; have := HL.out; omega) (fun e he => by have := HT.out.all e he; omega) (by omega)).mono ?_
  rintro e w3 ⟨vF, vR, rfl, T⟩
  have HTW := Lib.hid T
  have H3 := Lib.hid (And.intro (H1.out.1.gr0 T.gr) (H1.out.2.next0 T.gr))
  obtain ⟨aR, cR, hvR, hrR, -, -⟩ := own_parts T.r
  subst hvR
  have HRR := Lib.hid hrR
  have c1 := H3.out.1.cell 1
  clear T H1 hrR d0 d1 d2 d3 d4 d5
  go_wp2_with fail
  refine (esplit_any (restP l i) (restP l i).length n aR cR w3 HRR.out rfl (by have := HT.out.1; have := HSP.out.2.2.2.2.2.1; omega) (fun e he => by have := HSP.out.2.1 e he; omega) (by omega)).mono ?_
  rintro e w4 ⟨vH, vT, rfl, T⟩
  have HT2 := Lib.hid T
  obtain ⟨aF, cF, hvF, hrF, hcF, hnF⟩ := own_parts (own_gr0 HTW.out.f T.gr)
  subst hvF
  obtain ⟨aT, cT, hvT, hrT, hcT, hnT⟩ := own_parts T.r
  subst hvT
  obtain ⟨aH, cH, hvH, hrH, -, -⟩ := own_parts T.f
  subst hvH
  have H4 := Lib.hid (And.intro (H3.out.1.gr0 T.gr) (H3.out.2.next0 T.gr))
  have HRF := Lib.hid (And.intro hrF (And.intro hcF hnF))
  have HRT := Lib.hid (And.intro hrT (And.intro hcT hnT))
  have HRH := Lib.hid hrH
  clear T hrF hcF hnF hrT hcT hnT hrH H3 c1 HTW HRR
  obtain ⟨hz, hhz⟩ : ∃ z, z = heldZ (firstP (restP l i) n) := ⟨_, rfl⟩
  have HHZ := Lib.hid hhz
  clear hhz
  go_wp2_with fail
  refine (eheld_any (firstP (restP l i) n) (firstP (restP l i) n).length hz aH cH w4 HRH.out rfl ⟨by have := HT.out.1; have := HSP.out.2.2.2.2.2.1; have := HSQ.out.2.2.2.2.1; omega, fun e he => by have := HSQ.out.1 e he; omega⟩ HHZ.out).mono ?_
  rintro e w5 ⟨rfl, g5⟩
  have H5 := Lib.hid (And.intro (H4.out.1.gr0 g5) (H4.out.2.next0 g5))
  have HRF5 := Lib.hid (HRF.out.1.gr0 g5)
  have HRT5 := Lib.hid (HRT.out.1.gr0 g5)
  clear g5
  by_cases hpos : 0 < hz
  · go_wp2_with fail
    exact bodyPost_ret (v := .tuple #[.slice none 0 0, .int .i64 2]) (by simp [results, Try.results55, go_sem]) rfl ⟨H5.out.2, .inl ⟨by rw [← HHZ.out]; exact hpos, rfl⟩⟩
  · have HNP := Lib.hid (show heldZ (firstP (restP l i) n) ≤ 0 by rw [← HHZ.out]; omega)
    have c0 := H5.out.1.cell 0
    have c1 := H5.out.1.cell 1
    have HY := Lib.hid (holds_rd_one (Holds.new w5 #[.int .i64 a, .int .i64 n] 35))
    have HGX := Lib.hid (Gr.refl [] w5 |>.alloc (Obj.cells #[.int .i64 a, .int .i64 n] 35))
    have HG6 := Lib.hid (H5.out.2.alloc (Obj.cells #[.int .i64 a, .int .i64 n] 35))
    generalize hw6 : w5.alloc (Obj.cells #[.int .i64 a, .int .i64 n] 35) = w6 at *
    obtain ⟨b1, hb1⟩ : ∃ b, w5.heap.size = b := ⟨_, rfl⟩
    rw [hb1] at HY
    have HCAT := Lib.hid (show CatIn [(aF, cF, firstP l i), (some ⟨b1, 0, none⟩, 1, [(a, (n : Int))]), (aT, cT, restP (restP l i) n)] w6.heap.size (w6.alloc (Obj.cells #[.slice aF (firstP l i).length cF, .slice (some ⟨b1, 0, none⟩) 1 1, .slice aT (restP (restP l i) n).length cT] 82)) from by
      have gx := (Gr.refl [] w6).alloc (Obj.cells #[.slice aF (firstP l i).length cF, .slice (some ⟨b1, 0, none⟩) 1 1, .slice aT (restP (restP l i) n).length cT] 82)
      have X := Holds.new w6 #[.slice aF (firstP l i).length cF, .slice (some ⟨b1, 0, none⟩) 1 1, .slice aT (restP (restP l i) n).length cT] 82
      refine ⟨fun i x hx => ?_, X.lt, fun x hx => ?_, fun x hx => ?_⟩
      · match i, hx with
        | 0, hx => simp at hx; subst hx; exact X.cell 0
        | 1, hx => simp at hx; subst hx; exact X.cell 1
        | 2, hx => simp at hx; subst hx; exact X.cell 2
        | i + 3, hx => simp at hx
      · simp only [List.mem_cons, List.not_mem_nil, or_false] at hx
        rcases hx with rfl | rfl | rfl
        · exact (HRF5.out.gr0 HGX.out).gr0 gx
        · exact HY.out.gr0 gx
        · exact (HRT5.out.gr0 HGX.out).gr0 gx
      · simp only [List.mem_cons, List.not_mem_nil, or_false] at hx
        rcases hx with rfl | rfl | rfl
        · exact HRF.out.2
        · exact ⟨Nat.le_refl _, fun e => by cases e⟩
        · exact HRT.out.2)
    have HGC := Lib.hid (HG6.out.alloc (Obj.cells #[.slice aF (firstP l i).length cF, .slice (some ⟨b1, 0, none⟩) 1 1, .slice aT (restP (restP l i) n).length cT] 82))
    have hall : ∀ e ∈ fillP l i n a, -1 ≤ e.1 ∧ e.1 ≤ 1000000 ∧ 1 ≤ e.2 ∧ e.2 ≤ 65536 := by
      intro e hm
      unfold fillP at hm
      rcases List.mem_append.1 hm with q | q
      · rcases List.mem_append.1 q with q | q
        · have := HSP.out.1 e q; omega
        · simp at q; subst q; simp only; omega
      · have := HSQ.out.2.1 e q; omega
    have HJ := Lib.hid (ejoin_any _ (fillP l i n a) _ 3 _ (by simp [catP, fillP]) HCAT.out (by simp) (by have := HT.out.1; have := HSP.out.2.2.2.2; have := HSQ.out.2.2.2.2; simp [fillP]; omega) hall)
    obtain ⟨RL, hRL⟩ : ∃ RL, RL = joinP (fillP l i n a) := ⟨_, rfl⟩
    rw [← hRL] at HJ
    have HRL := Lib.hid hRL
    clear hall hRL
    subst hw6
    rw [World.size_alloc, hb1] at HJ
    go_wp2_with fail
    refine HJ.out.mono ?_
    rintro e w7 ⟨ao', cap', rfl, ho7, g7⟩
    have H7 := Lib.hid (And.intro (HGC.out.next0 g7) (own_sl2 ho7))
    clear ho7 g7 HJ HCAT HGC HG6 HGX HY c0 c1
    go_wp2_with fail
    refine (evalid_any RL RL.length ao' cap' w7 (sl2_parts H7.out.2).2.1 rfl).mono ?_
    rintro e w8 ⟨g8, ⟨hno, rfl⟩ | ⟨hyes, rfl⟩⟩
    · have H8 := Lib.hid (H7.out.1.next0 g8)
      clear g8
      go_wp2_with fail
      exact bodyPost_ret (v := .tuple #[.slice none 0 0, .int .i64 7]) (by simp [results, Try.results55, go_sem]) rfl ⟨H8.out, by rw [← HRL.out]; exact .inr (.inl ⟨HNP.out, hno, rfl⟩)⟩
    · have H8 := Lib.hid (And.intro (H7.out.1.next0 g8) (H7.out.2.gr0 g8))
      clear g8
      go_wp2_with fail
      exact bodyPost_ret (v := .tuple #[.slice ao' RL.length cap', .int .i64 0]) (by simp [results, Try.results55, go_sem]) rfl ⟨H8.out.1, by rw [← HRL.out]; exact .inr (.inr ⟨HNP.out, hyes, ao', cap', rfl, H8.out.2⟩)⟩

end Go.Proofs.Ytpkhfdcokcchdaa
