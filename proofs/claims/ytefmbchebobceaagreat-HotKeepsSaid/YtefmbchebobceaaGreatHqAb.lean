/-
  HqAb: HuO, FlYa, HwA, HwB, FrameN, FrameP.
-/
import Derived.Test.YtefmbchebobceaaGreatHkAa
import Derived.Test.YtefmbchebobceaaGreatHkAb
import Derived.Test.YtefmbchebobceaaGreatHkAc
import Derived.Test.YtefmbchebobceaaGreatHkAd
import Derived.Test.YtefmbchebobceaaGreatHkAe
import Derived.Test.YtefmbchebobceaaGreatHkAf
import Derived.Test.YtefmbchebobceaaGreatHkAg
import Derived.Test.YtefmbchebobceaaGreatHkAh
import Derived.Test.YtefmbchebobceaaGreatHkAi
import Derived.Test.YtefmbchebobceaaGreatHkAj
import Derived.Test.YtefmbchebobceaaGreatHkAk
import Derived.Test.YtefmbchebobceaaGreatHkAl
import Derived.Test.YtefmbchebobceaaGreatHkAm
import Derived.Test.YtefmbchebobceaaGreatHkAn
import Derived.Test.YtefmbchebobceaaGreatHkAo
import Derived.Test.YtefmbchebobceaaGreatHkAp
import Derived.Test.YtefmbchebobceaaGreatHkAq
import Derived.Test.YtefmbchebobceaaGreatHkAr
import Derived.Test.YtefmbchebobceaaGreatHkAs
import Derived.Test.YtefmbchebobceaaGreatHkAt
import Derived.Test.YtefmbchebobceaaGreatHkAu
import Derived.Test.YtefmbchebobceaaGreatHkAv
import Derived.Test.YtefmbchebobceaaGreatHkAw
import Derived.Test.YtefmbchebobceaaGreatHkAx
import Derived.Test.YtefmbchebobceaaGreatHkAy
import Derived.Test.YtefmbchebobceaaGreatHkAz
import Derived.Test.YtefmbchebobceaaGreatHkBa
import Derived.Test.YtefmbchebobceaaGreatHkBb
import Derived.Test.YtefmbchebobceaaGreatHkBc
import Derived.Test.YtefmbchebobceaaGreatHkBd
import Derived.Test.YtefmbchebobceaaGreatHkBe
import Derived.Test.YtefmbchebobceaaGreatHkBf
import Derived.Test.YtefmbchebobceaaGreatHkBg
import Derived.Test.YtefmbchebobceaaGreatHkBh
import Derived.Test.YtefmbchebobceaaGreatHkBi
import Derived.Test.YtefmbchebobceaaGreatHkBj
import Derived.Test.YtefmbchebobceaaGreatHkBk
import Derived.Test.YtefmbchebobceaaGreatHpAa
import Derived.Test.YtefmbchebobceaaGreatHpAb
import Derived.Test.YtefmbchebobceaaGreatHpAc
import Derived.Test.YtefmbchebobceaaGreatHpAd
import Derived.Test.YtefmbchebobceaaGreatHpAe
import Derived.Test.YtefmbchebobceaaGreatHpAf
import Derived.Test.YtefmbchebobceaaGreatHpAg
import Derived.Test.YtefmbchebobceaaGreatHpAh
import Derived.Test.YtefmbchebobceaaGreatHqAa
import Derived.Test.YtefmbchebobceaaGreatRows
import Derived.WalkKit
import Derived.Handy
import Derived.Lib.Hide
import Derived.Deep.QuietTactic
import Derived.BigQuiet
import Derived.KernelRfl
import Derived.Maps.RangeWalk
import Derived.Maps.OwnSet

set_option linter.unusedVariables false

/-
  Layer 10: Open, on a device whose lines may be bad.
-/
namespace Go.Proofs.YtefmbchebobceaaGreat
open Go.RowKit
set_option linter.unusedVariables false

section
variable {w0 w w' wr : World} {A : FlA} {a : DevA} {C : CfgZ} {F : Nat → Nat → Nat} {V : FlV} {gd : Bool} {N lim pb hb tb : Nat} {fr mv : Nat → Nat} {D : DevS} {B : Nat → BkS} {j : Nat → Nat}
theorem OpT.lg {tb : Nat} (hC : OkC C) (hp : 0 < pgC C) (fl : FLx C A a gd true F V N w0) (h : OpT w0 A C lim pb hb tb (tbC C) w) : LgI w A a C gd F V N lim pb hb tb fr mv 0 (.slice none 0 0) w := by
  have hlt := fl.lt
  have fw := fl.gr0 h.gr
  have key : ∀ b, w0.heap.size ≤ b → b ∉ A.all (cR C) ++ a.all := fun b hb e => by have := hlt b e; omega
  refine ⟨fw, h.head, ⟨rfl, .inl ⟨rfl, rfl⟩⟩, h.hts, ⟨_, fun q => decide (q < tbC C), h.tks, fun q hq => rowOf_get _ _ _ hq, fun q hq => ?_⟩, ⟨h.head.lt, h.hts.lt, h.tks.lt, fw.fl.lt⟩, h.nd, ⟨key _ h.lo.1, key _ h.lo.2.1, key _ h.lo.2.2⟩, Gr.refl _ _⟩
  constructor
  · intro e; exact .inl (of_decide_eq_true e)
  · rintro (e | ⟨g, hg, _⟩)
    · exact decide_eq_true e
    · omega
/-- Behind load: pages. -/
theorem LgI.done {v : Value} (hp : 0 < pgC C) (ht : TbO C F fr mv) (hm : ∀ g, g < pgC C → mv g ≤ N) (h : LgI w0 A a C gd F V N lim pb hb tb fr mv (pgC C) v wr) : ∃ (X : HtA) (tk : Nat → Bool), X.pb = pb ∧ HgIs wr X A a C gd true F V N lim ⟨fr, mv, fun _ => 0, tk⟩ ∧ ∀ x ∈ X.all, x = pb ∨ x = hb ∨ x = tb ∨ w0.heap.size ≤ x := by
  obtain ⟨cur, tk, q1, q2, q3⟩ := h.tks
  have hd := h.head
  obtain ⟨l1, l2, l3, l4⟩ := h.lo
  obtain ⟨d1, d2, d3⟩ := h.nd
  rcases h.own.2 with ⟨_, hz⟩ | ⟨lb, cl, curr, hvr, hgr, hhr, x1, x2, hsr, htr⟩
  · omega
  rw [hvr] at hd
  refine ⟨⟨pb, lb, cl, hb, tb⟩, tk, rfl, ⟨h.fl, hp, hd, ⟨curr, hhr, fun g hg => ?_⟩, ⟨_, h.hts, fun g hg => ?_⟩, ⟨cur, q1, q2⟩, fun x hx => ?_, ?_, by omega, ⟨ht.lt, ht.inj, q3⟩, ht.tab, hm, fun g hg => Nat.zero_le _⟩, fun x hx => ?_⟩
  · obtain ⟨s1, s2⟩ := plL_get fr mv (pgC C) hg
    rw [← htr] at s1 s2
    rw [List.getElem?_take, if_pos (by omega), Array.getElem?_toList] at s1 s2
    exact ⟨s1, s2⟩
  · exact rowOf_get _ _ _ hg
  · simp only [HtA.all, List.mem_cons, List.not_mem_nil, or_false] at hx
    rcases hx with rfl | rfl | rfl | rfl
    · exact h.na.1
    · intro e; have := l4 _ e; omega
    · exact h.na.2.1
    · exact h.na.2.2
  · exact ⟨by show pb ≠ lb; omega, d1, d2, by show lb ≠ hb; omega, by show lb ≠ tb; omega, d3⟩
  · simp only [HtA.all, List.mem_cons, List.not_mem_nil, or_false] at hx
    rcases hx with rfl | rfl | rfl | rfl
    · exact .inl rfl
    · exact .inr (.inr (.inr hgr))
    · exact .inr (.inl rfl)
    · exact .inr (.inr (.inl rfl))
set_option maxRecDepth 100000 in
set_option maxHeartbeats 16000000 in
theorem gopen_any (hC : OkC C) (hf : FlD C gd F V N D B j) (hd : DevIs w a D) (hN : N < 490000000) (hp : 0 < pgC C) (ht : TbO C F fr mv) (hm : ∀ g, g < pgC C → mv g ≤ N) (hl : 1 ≤ lim) (hl2 : lim < 1000000) :
    Calls Tryz.prog 17 #[.pointer (some ⟨a.bd, 0, none⟩), .int .i64 (lim : Int)] w fun e w' => ∃ (X : HtA) (A : FlA) (tk : Nat → Bool), e = .returned (.tuple #[.pointer (some ⟨X.pb, 0, none⟩), .int .i64 0]) ∧ HgIs w' X A a C gd true F V N lim ⟨fr, mv, fun _ => 0, tk⟩ ∧ (∀ x ∈ X.all ++ A.all (cR C), w.heap.size ≤ x) ∧ Gr [] w w' := by
  obtain ⟨n1, n2, n3, n4, n5, n6⟩ := pg_nums hC hp
  have HP := Lib.hid (And.intro hC (And.intro hp (And.intro ht (And.intro hm hN))))
  have HOp := Lib.hid (flx_open hC hf (by omega) hd)
  have HDL := Lib.hid hd.lt
  have HPl := Lib.hid (fun W => plan_any C hC.wf.1 W)
  obtain ⟨G, hG⟩ : ∃ G, G = pgC C := ⟨_, rfl⟩
  obtain ⟨H, hH⟩ : ∃ H, H = frmC C := ⟨_, rfl⟩
  obtain ⟨T, hT⟩ : ∃ T, T = tbC C := ⟨_, rfl⟩
  have hG7 : G ≤ 2048 := by omega
  have hH7 : H ≤ 2048 := by omega
  have HN := Lib.hid (And.intro hG (And.intro hH (And.intro hT (And.intro n1 (And.intro (show T ≤ H by omega) n2)))))
  rw [← hG, ← hT] at HPl
  obtain ⟨fz, hfz⟩ : ∃ fz, fz = freeC C := ⟨_, rfl⟩
  rw [← hfz] at HPl
  have HFZ := Lib.hid hfz
  have hG0 : ¬ G = 0 := by omega
  have hG0b : ((G : Int) == 0) = false := by simp; omega
  have hl1 : ¬ (lim : Int) < 1 := by omega
  have hl3 : ¬ lim < 1 := by omega
  unfold cfgV at HPl
  clear hf hd hC hp ht hm hN n1 n2 n3 n4 n5 n6 hG hH hT hfz
  go_enter Tryz.func17, Tryz.ntmps17
  go_wp2_with fail
  refine HOp.out.mono ?_
  rintro e w2 ⟨A, rfl, f2, n2, g2⟩
  have H2 := Lib.hid (And.intro f2 (And.intro n2 g2))
  have HCf := Lib.hid (show Calls Tryz.prog 55 #[.pointer (some ⟨A.fb, 0, none⟩)] w2 (fun e w' => e = .returned (.agg #[.int .i64 C.r, .int .i64 C.l, .int .i64 C.s, .int .i64 C.psi, .int .u64 (C.key : Int)]) ∧ Gr [] w2 w') from f2.fl.config)
  clear f2 n2 g2 HOp
  go_wp2_with fail
  refine HCf.out.mono ?_
  rintro e w3 ⟨rfl, g3⟩
  have H3 := Lib.hid (And.intro (H2.out.1.gr0 g3) (H2.out.2.2.trans g3))
  clear g3 HCf
  go_wp2_with fail
  refine (HPl.out _).mono ?_
  rintro e w4 ⟨rfl, g4⟩
  have ga := g4.alloc (Obj.cells #[.int .i64 (G : Int), .int .i64 (T : Int), .int .i64 fz] 104)
  have hh := Holds.new w4 #[.int .i64 (G : Int), .int .i64 (T : Int), .int .i64 fz] 104
  have H4 := Lib.hid (And.intro (H3.out.1.gr0 ga) (And.intro (H3.out.2.trans ga) hh))
  clear g4 ga hh HPl H3
  go_upto_region 9 with fail
  generalize w4.alloc (Obj.cells #[.int .i64 (G : Int), .int .i64 (T : Int), .int .i64 fz] 104) = w5 at *
  obtain ⟨yb, hyb⟩ : ∃ b, w4.heap.size = b := ⟨_, rfl⟩
  rw [hyb] at H4 ⊢
  clear hyb
  have y0 := H4.out.2.2.cell 0
  have y1 := H4.out.2.2.cell 1
  have y2 := H4.out.2.2.cell 2
  go_upto_region 11 with fail
  have mk1 := make_run (.int .i64 0) 8 G (G : Int) rfl Tryz.underlying49 infoI10 rfl (by omega) (by omega)
  have mk2 := make_run (.bool false) 1 H (H : Int) rfl Tryz.underlying52 infoB10 rfl (by omega) (by omega)
  have HLn := Lib.hid (fun W (g : Gr [] w5 W) => (H4.out.1.gr0 g).fl.lines)
  obtain ⟨N8, hN8⟩ : ∃ x, x = cR C * cL C := ⟨_, rfl⟩
  rw [← hN8] at HLn
  have t8 : (N8 : Int).tdiv 8 = (H : Int) := by rw [Int.tdiv_eq_ediv_of_nonneg (by omega)]; have := HN.out; omega
  have wH : IntKind.i64.wrap (H : Int) = (H : Int) := IntWalk.i64_in _ (by omega)
  have S0 : w5.cell? ⟨yb, 0, none⟩ = some (.int .i64 (G : Int)) ∧ w5.cell? ⟨yb, 1, none⟩ = some (.int .i64 (T : Int)) ∧ w5.cell? ⟨yb, 2, none⟩ = some (.int .i64 fz) := ⟨y0, y1, y2⟩
  have S0d := kD3h S0
  clear hN8 y0 y1 y2
  go_cut [9] (fun pv wz => ∃ pb hb tb : Nat, pv = .pointer (some ⟨pb, 0, none⟩) ∧ OpW w5 A C lim pb hb tb wz)
  case first =>
    go_region_held3 (fun w' : World => w'.cell? ⟨yb, 0, none⟩ = some (.int .i64 (G : Int)) ∧ w'.cell? ⟨yb, 1, none⟩ = some (.int .i64 (T : Int)) ∧ w'.cell? ⟨yb, 2, none⟩ = some (.int .i64 fz)) (with_reducible (first | assumption | ((repeat (first | assumption | refine kD3h ?_ | refine kA3h ?_)); done))) ((go_at_call 56; (with_reducible refine (HLn.out _ (by repeat (first | exact Gr.refl _ _ | refine Gr.drew ?_ | refine Gr.alloc ?_ _))).mono ?_); rintro rr w8 ⟨rfl, g8⟩; (with_reducible have S8 := keep3h (by assumption) g8); (first
      | ((with_reducible have yh := afterZ1 g8); have yh1 := yh.1; have yh2 := yh.2; clear yh g8)
      | ((with_reducible have yh2 := afterZ0 g8); clear g8))))
    all_goals (go_wp2_with fail; go_meet)
    all_goals
      obtain ⟨eG, eH, eT, _⟩ := HN.out
      have eF := HFZ.out
      subst eG
      subst eH
      subst eT
      subst eF
    all_goals first
      | exact ⟨_, _, _, rfl, opw_A yh2 yh1⟩
      | exact ⟨_, _, _, rfl, opw_B yh2⟩
      | exact ⟨_, _, _, rfl, opw_C yh2⟩
  case rest =>
    obtain ⟨pb, hb, tb, rfl, ow⟩ := hcut
    obtain ⟨wy, hwy⟩ : ∃ wy, wy = wc := ⟨_, rfl⟩
    rw [← hwy] at ow ⊢
    have HW := Lib.hid ow.start
    have y1 := (H4.out.2.2.gr0 ow.gr).cell 1
    simp only [List.getElem?_toArray, List.getElem?_cons_succ, List.getElem?_cons_zero] at y1
    have hT7 : T ≤ 2048 := by have := HN.out; omega
    have hTH : T ≤ H := HN.out.2.2.2.2.1
    clear hwy ow S0 S0d mk1 mk2 HLn t8 wH
    go_wp2_with fail
    clear y1
    go_loopw [44] (fun iv wr => ∃ n : Nat, iv = .int .i64 (n : Int) ∧ n ≤ T ∧ Hid (OpT w5 A C lim pb hb tb n wr)) (fun iv _ => T - (intOf iv).toNat)
    case atStart => exact ⟨0, rfl, by omega, HW⟩
    case round =>
      clear HW
      obtain ⟨n, rfl, hn, HS⟩ := hrel
      by_cases hnT : n < T
      · as_aux_lemma =>
          have i1 : (n : Int) < (T : Int) := by omega
          have i2 : (n : Int) < (H : Int) := by omega
          have i3 : (0 : Int) ≤ (n : Int) := by omega
          have c7 : wr.cell? ⟨pb, 7, none⟩ = some (.slice (some ⟨tb, 0, none⟩) (frmC C) (frmC C)) := HS.out.head.cell 7
          have tz := (HS.out.tks.cell n).trans (show (tkN C n)[n]? = some (.bool (decide (n < n))) from rowOf_get _ _ _ (by have := HN.out; omega))
          have tf := HS.out.tks.frozen n
          rw [← HN.out.2.1] at c7
          have HX := Lib.hid HS.out.next
          have HI := Lib.hid hnT
          go_wp2_with fail
          clear c7 tz tf
          go_roundw
          case rel => exact ⟨n + 1, by go_num, HI.out, HX⟩
          case measure => simp [intOf]; omega
      · obtain rfl : n = T := by omega
        have ij : ¬ ((n : Int) < (n : Int)) := by omega
        have HLd := Lib.hid (gload_any (lim := lim) (fr := fr) (mv := mv) HP.out.2.1 HP.out.2.2.1 (OpT.lg HP.out.1 HP.out.2.1 H4.out.1 (by have e := HN.out.2.2.1; rw [← e]; exact HS.out)))
        clear hnT hn
        go_wp2_with fail
        refine HLd.out.mono ?_
        rintro e w9 ⟨v, rfl, h9⟩
        have H9 := Lib.hid h9
        clear h9 HLd
        go_wp2_with fail
        go_ret2
        obtain ⟨X, tk, x1, x2, x3⟩ := H9.out.done HP.out.2.1 HP.out.2.2.1 HP.out.2.2.2.1
        have hlo := HS.out.lo
        have hsz := (H4.out.2.1.trans HS.out.gr).size
        have hs5 := H4.out.2.1.size
        refine ⟨X, A, tk, by rw [x1]; rfl, x2, fun x hx => ?_, (H4.out.2.1.trans HS.out.gr).nextN H9.out.gr (fun x hx => .inr ?_)⟩
        · rcases List.mem_append.1 hx with hx | hx
          · rcases x3 x hx with e | e | e | e <;> omega
          · exact H2.out.2.1 x hx
        · simp only [List.mem_cons, List.not_mem_nil, or_false] at hx
          omega
end
end Go.Proofs.YtefmbchebobceaaGreat

/-
  FlatKeeps: a set of ints (a map to bool), a slice of texts, a line that breaks.
-/
namespace Go.Proofs.YtefmbchebobceaaGreat
open Go.RowKit
set_option linter.unusedVariables false

def boolEnc (c : Bool) : DataW Unit := .lit (.bool c)
def boolR : Value → Option (DataW Unit × List MemPlace)
  | .bool v => some (boolEnc v, [])
  | _ => none
theorem boolR_inv (v : Value) (y : DataW Unit × List MemPlace) (h : boolR v = some y) : ∃ a : Bool, v = .bool a ∧ y = (boolEnc a, []) := by
  unfold boolR at h
  split at h
  · rename_i n
    cases h
    exact ⟨n, rfl, rfl⟩
  · cases h
noncomputable def boolE : EltLaw Tryz.prog 4 Bool where
  val := fun c => .bool c
  enc := boolEnc
  R := boolR
  R_mk := fun _ => rfl
  R_inv := boolR_inv
  enc_inj := by
    intro a b h
    unfold boolEnc at h
    simp at h
    exact h
  zero := false
  zero_run := fun _ => by kernel_rfl
/-- Where the first k lines are. -/
def atF (W : Nat → Nat) (k : Nat) : Int → Option Bool := fun z => if (List.range k).any (fun l => decide ((W l : Int) = z)) then some true else none
theorem atF_zero (W : Nat → Nat) : atF W 0 = fun _ => none := by funext z; simp [atF]
theorem atF_succ (W : Nat → Nat) (k : Nat) : updZ (atF W k) (W k : Int) (some true) = atF W (k + 1) := by
  funext z
  unfold updZ atF
  rw [List.range_succ, List.any_append]
  by_cases e : z = (W k : Int)
  · rw [if_pos e, if_pos (by simp [e])]
  · rw [if_neg e]
    have : ([k].any fun l => decide ((W l : Int) = z)) = false := by simp; exact fun q => e q.symm
    rw [this, Bool.or_false]
theorem atF_new {W : Nat → Nat} {k : Nat} (h : ∀ l, l < k → W l ≠ W k) : atF W k (W k : Int) = none := by
  unfold atF
  rw [if_neg]
  simp only [List.any_eq_true, List.mem_range, decide_eq_true_eq, not_exists, not_and]
  intro l hl e
  exact h l hl (by omega)
section
variable {w w' : World} {A : FlA} {a : DevA} {C : CfgZ} {F : Nat → Nat → Nat} {V : FlV} {N : Nat}
/-- A line breaks: the list stands. -/
theorem FL.break (h : FL C A a false F V N w) (l : Nat) (hl : l < cR C * cL C) :
    Calls Tryz.prog 27 #[.pointer (some ⟨a.bd, 0, none⟩), .int .i64 (V.W l : Int)] w fun e w' => e = .returned (.tuple #[]) ∧ FL C A a false F V N w' ∧ Gr a.all w w' := by
  obtain ⟨ok, D, B, j, c, h1, h2, h3⟩ := h
  obtain ⟨p1, p2, p3, p4⟩ := h1.pos ok hl
  obtain ⟨hq, hi⟩ := qi_in ok hl
  refine (break_in a D (V.W l) w h3 p4).mono ?_
  rintro e w2 ⟨rfl, d2, g2⟩
  have g3 : Gr a.all w w2 := g2.mono (fun b hb => by simp at hb; subst hb; simp [DevA.all])
  have hbg : ∀ x ∈ A.all (cR C), x ∉ [a.bg] := fun x hx e => by
    have e' := List.mem_singleton.1 e
    subst e'
    unfold FlA.all at hx
    rcases List.mem_append.1 hx with hx | hx
    · have hm : a.bg ∈ a.all := by simp [DevA.all]
      obtain ⟨n1, n2, n3⟩ := h2.na
      simp at hx
      rcases hx with e | e | e
      · exact n1 (e ▸ hm)
      · exact n2 (e ▸ hm)
      · exact n3 (e ▸ hm)
    · obtain ⟨q, hq, hx⟩ := List.mem_flatMap.1 hx
      have R := h2.rg q (List.mem_range.1 hq)
      have hm : a.bg ∈ a.all := by simp [DevA.all]
      unfold FlA.reg at hx
      rcases List.mem_cons.1 hx with e | e
      · exact R.ka (e ▸ hm)
      · exact R.bk.sep _ e hm
  refine ⟨rfl, ⟨ok, { D with bad := fun j => if j = V.W l then true else D.bad j }, B, j, c, ⟨⟨h1.calm.off, h1.calm.fuse, h1.calm.buf⟩, (fun q => absurd q (by decide)), h1.fit, ?_, h1.vs, h1.mv, h1.bd⟩, h2.gr g2 hbg, d2⟩, g3⟩
  obtain ⟨G, L, hF⟩ := h1.ls
  refine ⟨G, ⟨L.hd, fun q hq1 => ?_⟩, hF⟩
  obtain ⟨r1, r2, r3, r4, r5, r6, r7, r8⟩ := ok.reg hq1
  have R := L.rg q hq1
  refine ⟨R.ti.keep ⟨h1.calm.off, h1.calm.fuse, h1.calm.buf⟩ rfl (fun x _ => rfl) r1.ok (fun l2 q1 q2 => ?_), R.reg, R.wd⟩
  show (if l2 = V.W l then true else D.bad l2) = false
  rw [if_neg]
  · exact R.ti.tb l2 q1 q2
  · rintro rfl
    by_cases e : q = qL C l
    · subst e
      have : (bankR (regC C (qL C l))).a = (regC C (qL C l)).a := rfl
      omega
    · have ha := ok.apart hq hq1 (fun q => e q.symm)
      have ha' : (regC C (qL C l)).a + sizeZ (bankR (regC C (qL C l))) ≤ (regC C q).a ∨ (regC C q).a + sizeZ (bankR (regC C q)) ≤ (regC C (qL C l)).a := ha
      obtain ⟨s1, _⟩ := ok.reg hq
      obtain ⟨u1, u2, u3, u4, u5, u6⟩ := rg_nums r1
      obtain ⟨v1, v2, v3, v4, v5, v6⟩ := rg_nums s1
      have : (bankR (regC C q)).a = (regC C q).a := rfl
      omega
end
section
variable {w wr w2 : World} {C : CfgZ} {a : DevA} {nb : Nat} {K : Nat → ByteArray} {A : FlA} {V V2 : FlV} {N N2 : Nat}
end
end Go.Proofs.YtefmbchebobceaaGreat

/-
  HotKeeps: pages whose lines may be bad: where they are, a line breaks, they are opened anew.
-/
namespace Go.Proofs.YtefmbchebobceaaGreat
open Go.RowKit
set_option linter.unusedVariables false

section
variable {w w' : World} {X : HtA} {A : FlA} {a : DevA} {C : CfgZ} {gd cm : Bool} {F F' : Nat → Nat → Nat} {V V' : FlV} {N N' lim : Nat} {S : HtS} {Y Y' : Nat → Nat → Nat → Nat}
theorem FLx.weak (h : FLx C A a gd cm F V N w) : FLx C A a false cm F V N w := by
  obtain ⟨ok, D, B, j, c, h1, r⟩ := h
  exact ⟨ok, D, B, j, c, ⟨h1.calm, (fun q => absurd q (by simp)), h1.fit, h1.ls, h1.vs, h1.mv, h1.bd⟩, r⟩
theorem HLg.weak (h : HLg C X A a gd cm lim Y N w) : HLg C X A a false cm lim Y N w := by
  obtain ⟨l1, l2, F, V, S, h1, h2⟩ := h
  exact ⟨l1, l2, F, V, S, ⟨h1.fl.weak, h1.pos, h1.head, h1.pls, h1.hts, h1.tks, h1.na, h1.nd, h1.cap, h1.inv, h1.tab, h1.mvb, h1.htb⟩, h2⟩
theorem HLg.congr (h : HLg C X A a gd cm lim Y N w) (hY : ∀ g k m, g < pgC C → k < 8 → m < 8 → Y g k m = Y' g k m) : HLg C X A a gd cm lim Y' N w := by
  obtain ⟨l1, l2, F, V, S, h1, h2⟩ := h
  exact ⟨l1, l2, F, V, S, h1, fun g k m hg hk hm => (h2 g k m hg hk hm).trans (hY g k m hg hk hm)⟩
theorem gflat_any (h : HgIs w X A a C gd cm F V N lim S) : Calls Tryz.prog 40 #[.pointer (some ⟨X.pb, 0, none⟩)] w fun e w' => e = .returned (.pointer (some ⟨A.fb, 0, none⟩)) ∧ w' = w := by
  have c0 := h.hc.1
  clear h
  go_enter Tryz.func40, Tryz.ntmps40
  go_wp2_with fail
  go_ret
  exact ⟨rfl, rfl⟩
theorem gframe_in (h : HgIs w X A a C gd cm F V N lim S) (g : Nat) (hg : g < pgC C) : Calls Tryz.prog 32 #[.pointer (some ⟨X.pb, 0, none⟩), .int .i64 (g : Int)] w fun e w' => e = .returned (.tuple #[.int .i64 (S.fr g : Int), .int .i64 0]) ∧ w' = w := by
  have HH := Lib.hid (ghas_any h (g : Int))
  rw [decide_eq_true (by omega)] at HH
  have c5 := h.hc.2.2.2.2.1
  obtain ⟨l0, l1, l2⟩ := h.plAt hg
  have n := pg_nums h.fl.ok h.pos
  have hcap := h.cap
  clear h
  obtain ⟨f, hf0⟩ : ∃ f, f = S.fr g := ⟨_, rfl⟩
  obtain ⟨m, hm⟩ : ∃ m, m = S.mv g := ⟨_, rfl⟩
  obtain ⟨G, hG⟩ : ∃ G, G = pgC C := ⟨_, rfl⟩
  rw [← hf0] at l0 ⊢
  rw [← hm] at l1
  rw [← hG] at c5 hg hcap
  have g1 : (g : Int) < (G : Int) := by omega
  have g0 : (0 : Int) ≤ (g : Int) := by omega
  clear hf0 hm hG n
  go_enter Tryz.func32, Tryz.ntmps32
  go_wp2_with fail
  refine HH.out.mono ?_
  rintro e w2 ⟨rfl, rfl⟩
  go_wp2_with fail
  go_ret2
  exact ⟨rfl, rfl⟩
/-- A line breaks: the pages stand. -/
theorem HgIs.break (h : HgIs w X A a C false true F V N lim S) (l : Nat) (hl : l < cR C * cL C) :
    Calls Tryz.prog 27 #[.pointer (some ⟨a.bd, 0, none⟩), .int .i64 (V.W l : Int)] w fun e w' => e = .returned (.tuple #[]) ∧ HgIs w' X A a C false true F V N lim S ∧ Gr a.all w w' := by
  refine (h.fl.fl.break l hl).mono ?_
  rintro e w2 ⟨rfl, f2, g2⟩
  have hn : ∀ x ∈ X.all, x ∉ a.all := fun x hx e => h.na x hx (List.mem_append.2 (.inr e))
  obtain ⟨c1, q1, q2⟩ := h.pls
  obtain ⟨c2, q3, q4⟩ := h.hts
  obtain ⟨c3, q5, q6⟩ := h.tks
  exact ⟨rfl, ⟨.of f2, h.pos, h.head.gr g2 (hn _ (by simp [HtA.all])), ⟨c1, q1.gr g2 (hn _ (by simp [HtA.all])), q2⟩, ⟨c2, q3.gr g2 (hn _ (by simp [HtA.all])), q4⟩, ⟨c3, q5.gr g2 (hn _ (by simp [HtA.all])), q6⟩, h.na, h.nd, h.cap, h.inv, h.tab, h.mvb, h.htb⟩, g2⟩
theorem gwhere_in (h : HgIs w X A a C gd true F V N lim S) (l : Nat) (hl : l < cR C * cL C) :
    Calls Tryz.prog 41 #[.pointer (some ⟨A.fb, 0, none⟩), .int .i64 (l : Int)] w fun e w' => e = .returned (.tuple #[.int .i64 (V.W l : Int), .int .i64 0]) ∧ Gr [] w w' := h.fl.fl.where l hl
/-- They are opened anew: they read the same. -/
theorem HLg.again (h : HLg C X A a gd true lim Y N w) (hN : N < 490000000) :
    Calls Tryz.prog 17 #[.pointer (some ⟨a.bd, 0, none⟩), .int .i64 (lim : Int)] w fun e w' => ∃ (X2 : HtA) (A2 : FlA), e = .returned (.tuple #[.pointer (some ⟨X2.pb, 0, none⟩), .int .i64 0]) ∧ HLg C X2 A2 a gd true lim Y N w' ∧ (∀ x ∈ X2.all ++ A2.all (cR C), w.heap.size ≤ x) ∧ Gr [] w w' := by
  obtain ⟨l1, l2, F, V, S, h1, h2⟩ := h
  have ht := h1.tbo (by omega)
  obtain ⟨ok, D, B, j, c, f1, f2, d3⟩ := h1.fl.fl
  refine (gopen_any ok f1 d3 hN h1.pos ht h1.mvb l1 l2).mono ?_
  rintro e w2 ⟨X2, A2, tk, rfl, q, n, g⟩
  exact ⟨X2, A2, rfl, ⟨l1, l2, F, V, _, q, h2⟩, n, g⟩
end
end Go.Proofs.YtefmbchebobceaaGreat

/-
  HotKeeps: the law's pages, and the map of what was written.
-/
namespace Go.Proofs.YtefmbchebobceaaGreat
open Go.RowKit
set_option linter.unusedVariables false

/-- What is known of lines, by pairs. -/
def knF (K : Nat → Nat → Option ByteArray) : Int → Int → Option ByteArray := fun x y => if 0 ≤ x ∧ 0 ≤ y then K x.toNat y.toNat else none
def putO (K : Nat → Nat → Option ByteArray) (g k : Nat) (s : ByteArray) : Nat → Nat → Option ByteArray := fun g2 k2 => if g2 = g ∧ k2 = k then some s else K g2 k2
def yK (Z0 : ByteArray) (K : Nat → Nat → Option ByteArray) : Nat → Nat → Nat → Nat := fun g k m => wdL ((K g k).getD Z0).data.toList m
theorem knF_none : knF (fun _ _ => none) = fun _ _ => none := by funext x y; unfold knF; split <;> rfl
theorem knF_get (K : Nat → Nat → Option ByteArray) (g k : Nat) : knF K (g : Int) (k : Int) = K g k := by
  unfold knF
  rw [if_pos (by omega), Int.toNat_natCast, Int.toNat_natCast]
theorem knF_put (K : Nat → Nat → Option ByteArray) (g k : Nat) (s : ByteArray) : updP (knF K) (g : Int) (k : Int) (some s) = knF (putO K g k s) := by
  funext x y
  unfold updP knF putO
  by_cases h : 0 ≤ x ∧ 0 ≤ y
  · rw [if_pos h, if_pos h]
    by_cases e : x = (g : Int) ∧ y = (k : Int)
    · rw [if_pos e, if_pos (by omega)]
    · rw [if_neg e, if_neg (by omega)]
  · rw [if_neg h, if_neg h, if_neg (by omega)]
theorem yK_put (Z0 : ByteArray) (K : Nat → Nat → Option ByteArray) (g k : Nat) (s : ByteArray) : putN (yK Z0 K) g k s = yK Z0 (putO K g k s) := by
  funext g2 k2 m
  unfold putN yK putO
  split <;> rfl
theorem yK_text {Z0 : ByteArray} {K : Nat → Nat → Option ByteArray} {g k : Nat} (h0 : Z0.size = 64) (hK : ∀ g k s, K g k = some s → s.size = 64) : tY (yK Z0 K) g k = (K g k).getD Z0 := by
  refine tY_is ?_ fun m hm => rfl
  cases e : K g k with
  | none => exact h0
  | some s => exact hK g k s e
/-- The law's pages behind n acts. -/
structure Kz (w : World) (C : CfgZ) (lim mb : Nat) (Z0 : ByteArray) (a : DevA) (K : Nat → Nat → Option ByteArray) (X : HtA) (A : FlA) (F : Nat → Nat → Nat) (V : FlV) (S : HtS) (n : Nat) (wr : World) : Prop where
  gr : Gr [] w wr
  hg : HgIs wr X A a C false true F V (300000 + 42000 * n) lim S
  see : ∀ g k m, g < pgC C → k < 8 → m < 8 → F (8 * S.fr g + k) m = yK Z0 K g k m
  mp : MapP textE 55 wr mb n (knF K)
  sz : ∀ g k s, K g k = some s → s.size = 64
  lo : w.heap.size ≤ mb ∧ ∀ x ∈ X.all ++ (A.all (cR C) ++ a.all), w.heap.size ≤ x ∧ x ≠ mb
  li : 1 ≤ lim ∧ lim < 1000000
section
variable {w wr w2 : World} {C : CfgZ} {lim mb : Nat} {Z0 : ByteArray} {a : DevA} {K K2 : Nat → Nat → Option ByteArray} {X X2 : HtA} {A A2 : FlA} {F F2 : Nat → Nat → Nat} {V V2 : FlV} {S S2 : HtS} {n n2 : Nat}
theorem Kz.next {bs : List Nat} (h : Kz w C lim mb Z0 a K X A F V S n wr) (g : Gr bs wr w2) (hb : ∀ x ∈ bs, w.heap.size ≤ x ∧ x ≠ mb ∧ x ∉ X.all ++ (A.all (cR C) ++ a.all)) : Kz w C lim mb Z0 a K X A F V S n w2 :=
  ⟨h.gr.nextN g fun x hx => .inr (hb x hx).1, h.hg.gr g (fun x hx e => (hb x e).2.2 (List.mem_append.2 (.inl hx))) (fun x hx e => (hb x e).2.2 (List.mem_append.2 (.inr hx))), h.see, h.mp.gr g fun hx => (hb _ hx).2.1 rfl, h.sz, h.lo, h.li⟩
theorem Kz.next0 (h : Kz w C lim mb Z0 a K X A F V S n wr) (g : Gr [] wr w2) : Kz w C lim mb Z0 a K X A F V S n w2 := h.next g (by simp)
theorem Kz.more (h : Kz w C lim mb Z0 a K X A F V S n wr) (hn : n ≤ n2) : Kz w C lim mb Z0 a K X A F V S n2 wr := ⟨h.gr, h.hg.more (by omega), h.see, h.mp.mono hn, h.sz, h.lo, h.li⟩
theorem Kz.hl (h : Kz w C lim mb Z0 a K X A F V S n wr) : HLg C X A a false true lim (yK Z0 K) (300000 + 42000 * n) wr := ⟨h.li.1, h.li.2, F, V, S, h.hg, h.see⟩
theorem Kz.of (gr : Gr [] w wr) (hl : HLg C X A a false true lim (yK Z0 K) (300000 + 42000 * n) wr) (mp : MapP textE 55 wr mb n (knF K)) (sz : ∀ g k s, K g k = some s → s.size = 64) (lo : w.heap.size ≤ mb ∧ ∀ x ∈ X.all ++ (A.all (cR C) ++ a.all), w.heap.size ≤ x ∧ x ≠ mb) : ∃ F V S, Kz w C lim mb Z0 a K X A F V S n wr := by
  obtain ⟨l1, l2, F, V, S, h1, h2⟩ := hl
  exact ⟨F, V, S, gr, h1, h2, mp, sz, lo, l1, l2⟩
/-- A line is written: done, or no spare is left. -/
theorem Kz.put (h : Kz w C lim mb Z0 a K X A F V S n wr) (hn : n < 1000) (g k : Nat) (hg : g < pgC C) (hk : k < 8) (s : ByteArray) (hs : s.size = 64) :
    Calls Tryz.prog 20 #[.pointer (some ⟨X.pb, 0, none⟩), .int .i64 (g : Int), .int .i64 (k : Int), .string s] wr fun e w2 => ∃ x : Int, e = .returned (.int .i64 x) ∧ Gr [] w w2 ∧ MapP textE 55 w2 mb n (knF K) ∧ ((x = 0 ∧ HLg C X A a false true lim (yK Z0 (putO K g k s)) (300000 + 42000 * (n + 1)) w2) ∨ (x = 10 ∧ HLg C X A a false true lim (yK Z0 K) (300000 + 42000 * (n + 1)) w2)) := by
  refine (h.hl.put (by omega) g k hg hk s hs).mono ?_
  rintro e w2 ⟨x, rfl, hx, g2⟩
  refine ⟨x, rfl, h.gr.nextN g2 fun x hx => .inr (h.lo.2 x hx).1, h.mp.gr g2 fun hx => (h.lo.2 _ hx).2 rfl, ?_⟩
  rcases hx with ⟨e, q⟩ | ⟨e, _, q⟩ | ⟨e, q, _⟩
  · rw [yK_put] at q
    exact .inl ⟨e, q.more (by omega)⟩
  · exact .inr ⟨e, q.more (by omega)⟩
  · exact absurd q (by decide)
/-- The page's text. -/
theorem Kz.text (h : Kz w C lim mb Z0 a K X A F V S n wr) (h0 : Z0.size = 64) (g k : Nat) (hg : g < pgC C) (hk : k < 8) : Calls Tryz.prog 24 #[.pointer (some ⟨X.pb, 0, none⟩), .int .i64 (g : Int), .int .i64 (k : Int)] wr fun e w' => e = .returned (.tuple #[.string ((K g k).getD Z0), .int .i64 0]) ∧ Gr [] wr w' := by
  have := (h.hl.text g k hg hk).2.2
  rw [yK_text h0 h.sz] at this
  exact this
theorem Kz.look (h : Kz w C lim mb Z0 a K X A F V S n wr) (g k : Nat) (hg : g < 10000) (hk : k < 8) : (Instr.lookup 88 (.map (some mb)) (.agg #[.int .i64 (g : Int), .int .i64 (k : Int)]) true).run Tryz.prog wr = .ok (.tuple #[.string ((K g k).getD ⟨#[]⟩), .bool (K g k).isSome]) wr := by
  have h1 := h.mp.look_ok (t := 88) pair10 Tryz.underlying88 (wfZ (z := (g : Int)) (by omega) (by omega)) (wfZ (z := (k : Int)) (by omega) (by omega))
  rw [knF_get] at h1
  exact h1
theorem Kz.frameW (h : Kz w C lim mb Z0 a K X A F V S n wr) {g : Nat} (hg : g < pgC C) : WfZ (S.fr g : Int) ∧ S.fr g < 2048 := by
  have h1 := (h.hg.inv.lt g hg).2
  have h2 := (pg_nums h.hg.fl.ok h.hg.pos).2.1
  exact ⟨wfZ (by omega) (by omega), by omega⟩
end
end Go.Proofs.YtefmbchebobceaaGreat

/-
  Slices of acts (three integers, a word, a text, a list of bools) that come in as an argument of a law, opened.
-/
namespace Go.Proofs.YtefmbchebobceaaGreat
open Go.ChangeShapes Go.WideShapes Go.ChangeAt Go.RowKit
set_option linter.unusedVariables false

def I64 (x : Int) : Prop := -9223372036854775808 ≤ x ∧ x ≤ 9223372036854775807
end Go.Proofs.YtefmbchebobceaaGreat

/-
  A config (four integers, a word) that comes in as an argument of a law, opened.
-/
namespace Go.Proofs.YtefmbchebobceaaGreat
open Go.ChangeShapes Go.WideShapes Go.ChangeAt Go.RowKit
set_option linter.unusedVariables false

theorem okWide_strP {P : Program} {w : World} {r : Reach} {base : Nat} {t : TypeId} {v : Value} {fs : Array Field} (ht : P.underlying t = some (.struct fs)) (h : Value.okWide P w r base t v) : ∃ cs, v = .agg cs ∧ cs.size = P.cellsOf t := by
  simp only [Value.okWide, ht] at h
  obtain ⟨cs, h1, h2, _⟩ := h
  exact ⟨cs, h1, h2⟩
end Go.Proofs.YtefmbchebobceaaGreat
