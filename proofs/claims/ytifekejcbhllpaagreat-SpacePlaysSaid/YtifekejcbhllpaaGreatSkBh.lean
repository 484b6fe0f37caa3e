/-
  SkBh: HuE, HuG, HtM.
-/
import Derived.Test.YtifekejcbhllpaaGreatSkBf
import Derived.Test.YtifekejcbhllpaaGreatSkBg
import Derived.Test.YtifekejcbhllpaaGreatSkAh

set_option linter.unusedVariables false

/-
  Layer 10: pages at work, whatever comes: find, has, Len, Read, spot.
-/
namespace Go.Proofs.YtifekejcbhllpaaGreat
open Go.RowKit
set_option linter.unusedVariables false

structure HgIs (w : World) (X : HtA) (A : FlA) (a : DevA) (C : CfgZ) (gd cm : Bool) (F : Nat → Nat → Nat) (V : FlV) (N lim : Nat) (S : HtS) : Prop where
  fl : FLx C A a gd cm F V N w
  pos : 0 < pgC C
  head : Holds w X.pb (htRow X A C lim) 103
  pls : ∃ cur : Array Value, Holds w X.lb cur 97 ∧ ∀ g, g < pgC C → cur[g * 2]? = some (.int .i64 (S.fr g : Int)) ∧ cur[g * 2 + 1]? = some (.int .u32 (S.mv g : Int))
  hts : ∃ cur : Array Value, Holds w X.hb cur 3 ∧ ∀ g, g < pgC C → cur[g]? = some (.int .i64 (S.ht g : Int))
  tks : ∃ cur : Array Value, Holds w X.tb cur 4 ∧ ∀ q, q < frmC C → cur[q]? = some (.bool (S.tk q))
  na : ∀ x ∈ X.all, x ∉ A.all (cR C) ++ a.all
  nd : X.pb ≠ X.lb ∧ X.pb ≠ X.hb ∧ X.pb ≠ X.tb ∧ X.lb ≠ X.hb ∧ X.lb ≠ X.tb ∧ X.hb ≠ X.tb
  cap : pgC C ≤ X.cl
  inv : HtP C S
  tab : ∀ g, g < pgC C → F (g / 8) (g % 8) = guardN (keyT S g)
  mvb : ∀ g, g < pgC C → S.mv g ≤ N
  htb : ∀ g, g < pgC C → S.ht g ≤ lim
section
variable {w w' : World} {X : HtA} {A : FlA} {a : DevA} {C : CfgZ} {F : Nat → Nat → Nat} {V : FlV} {gd cm : Bool} {N lim : Nat} {S : HtS}
theorem HgIs.gr {bs : List Nat} (h : HgIs w X A a C gd cm F V N lim S) (k : Gr bs w w') (h1 : ∀ x ∈ X.all, x ∉ bs) (h2 : ∀ x ∈ A.all (cR C) ++ a.all, x ∉ bs) : HgIs w' X A a C gd cm F V N lim S := by
  obtain ⟨c1, q1, q2⟩ := h.pls
  obtain ⟨c2, q3, q4⟩ := h.hts
  obtain ⟨c3, q5, q6⟩ := h.tks
  exact ⟨h.fl.gr k h2, h.pos, h.head.gr k (h1 _ (by simp [HtA.all])), ⟨c1, q1.gr k (h1 _ (by simp [HtA.all])), q2⟩, ⟨c2, q3.gr k (h1 _ (by simp [HtA.all])), q4⟩, ⟨c3, q5.gr k (h1 _ (by simp [HtA.all])), q6⟩, h.na, h.nd, h.cap, h.inv, h.tab, h.mvb, h.htb⟩
theorem HgIs.gr0 (h : HgIs w X A a C gd cm F V N lim S) (k : Gr [] w w') : HgIs w' X A a C gd cm F V N lim S := h.gr k (by simp) (by simp)
theorem HgIs.lt (h : HgIs w X A a C gd cm F V N lim S) : ∀ x ∈ X.all ++ (A.all (cR C) ++ a.all), x < w.heap.size := by
  intro x hx
  obtain ⟨c1, q1, q2⟩ := h.pls
  obtain ⟨c2, q3, q4⟩ := h.hts
  obtain ⟨c3, q5, q6⟩ := h.tks
  rcases List.mem_append.1 hx with hx | hx
  · simp only [HtA.all, List.mem_cons, List.not_mem_nil, or_false] at hx
    rcases hx with rfl | rfl | rfl | rfl
    · exact h.head.lt
    · exact q1.lt
    · exact q3.lt
    · exact q5.lt
  · exact h.fl.lt x hx
theorem HgIs.plAt (h : HgIs w X A a C gd cm F V N lim S) {g : Nat} (hg : g < pgC C) : w.cell? ⟨X.lb, g * 2, none⟩ = some (.int .i64 (S.fr g : Int)) ∧ w.cell? ⟨X.lb, g * 2 + 1, none⟩ = some (.int .u32 (S.mv g : Int)) ∧ (∀ o, w.frozen? ⟨X.lb, o, none⟩ = false) := by
  obtain ⟨c1, q1, q2⟩ := h.pls
  exact ⟨(q1.cell _).trans (q2 g hg).1, (q1.cell _).trans (q2 g hg).2, fun o => q1.frozen o⟩
theorem HgIs.htAt (h : HgIs w X A a C gd cm F V N lim S) {g : Nat} (hg : g < pgC C) : w.cell? ⟨X.hb, g, none⟩ = some (.int .i64 (S.ht g : Int)) ∧ w.frozen? ⟨X.hb, g, none⟩ = false := by
  obtain ⟨c1, q1, q2⟩ := h.hts
  exact ⟨(q1.cell _).trans (q2 g hg), q1.frozen _⟩
theorem HgIs.tkAt (h : HgIs w X A a C gd cm F V N lim S) {q : Nat} (hq : q < frmC C) : w.cell? ⟨X.tb, q, none⟩ = some (.bool (S.tk q)) ∧ w.frozen? ⟨X.tb, q, none⟩ = false := by
  obtain ⟨c1, q1, q2⟩ := h.tks
  exact ⟨(q1.cell _).trans (q2 q hq), q1.frozen _⟩
theorem HgIs.hc (h : HgIs w X A a C gd cm F V N lim S) : w.cell? ⟨X.pb, 0, none⟩ = some (.pointer (some ⟨A.fb, 0, none⟩)) ∧ w.cell? ⟨X.pb, 1, none⟩ = some (.int .i64 (pgC C : Int)) ∧ w.cell? ⟨X.pb, 2, none⟩ = some (.int .i64 (tbC C : Int)) ∧ w.cell? ⟨X.pb, 4, none⟩ = some (.int .i64 (lim : Int)) ∧ w.cell? ⟨X.pb, 5, none⟩ = some (.slice (some ⟨X.lb, 0, none⟩) (pgC C) X.cl) ∧ w.cell? ⟨X.pb, 6, none⟩ = some (.slice (some ⟨X.hb, 0, none⟩) (pgC C) (pgC C)) ∧ w.cell? ⟨X.pb, 7, none⟩ = some (.slice (some ⟨X.tb, 0, none⟩) (frmC C) (frmC C)) :=
  ⟨h.head.cell 0, h.head.cell 1, h.head.cell 2, h.head.cell 4, h.head.cell 5, h.head.cell 6, h.head.cell 7⟩
theorem glen_any (h : HgIs w X A a C gd cm F V N lim S) : Calls Tryz.prog 35 #[.pointer (some ⟨X.pb, 0, none⟩)] w fun e w' => e = .returned (.int .i64 (pgC C : Int)) ∧ w' = w := by
  have c1 := h.hc.2.1
  clear h
  go_enter Tryz.func35, Tryz.ntmps35
  go_wp2_with fail
  go_ret
  exact ⟨rfl, rfl⟩
theorem ghas_any (h : HgIs w X A a C gd cm F V N lim S) (g : Int) : Calls Tryz.prog 43 #[.pointer (some ⟨X.pb, 0, none⟩), .int .i64 g] w fun e w' => e = .returned (.bool (decide (0 ≤ g ∧ g < (pgC C : Int)))) ∧ w' = w := by
  have HL := Lib.hid (glen_any h)
  clear h
  obtain ⟨G, hG⟩ : ∃ G, G = pgC C := ⟨_, rfl⟩
  rw [← hG] at HL ⊢
  clear hG
  by_cases h0 : 0 ≤ g
  · by_cases h1 : g < (G : Int)
    · rw [decide_eq_true ⟨h0, h1⟩]
      go_enter Tryz.func43, Tryz.ntmps43
      go_wp2_with fail
      refine HL.out.mono ?_
      rintro e w2 ⟨rfl, rfl⟩
      go_wp2_with fail
      go_ret
      exact ⟨rfl, rfl⟩
    · rw [decide_eq_false (fun q => h1 q.2)]
      go_enter Tryz.func43, Tryz.ntmps43
      go_wp2_with fail
      refine HL.out.mono ?_
      rintro e w2 ⟨rfl, rfl⟩
      go_wp2_with fail
      go_ret
      exact ⟨by simp [h1] <;> omega, rfl⟩
  · rw [decide_eq_false (fun q => h0 q.1)]
    go_enter Tryz.func43, Tryz.ntmps43
    go_wp2_with fail
    go_ret
    exact ⟨rfl, rfl⟩
theorem gfind_in (h : HgIs w X A a C gd cm F V N lim S) (g k : Nat) (hg : g < pgC C) (hk : k < 8) : Calls Tryz.prog 95 #[.pointer (some ⟨X.pb, 0, none⟩), .int .i64 (g : Int), .int .i64 (k : Int)] w fun e w' => e = .returned (.tuple #[.int .i64 ((8 * S.fr g + k : Nat) : Int), .int .i64 0]) ∧ w' = w := by
  have HH := Lib.hid (ghas_any h (g : Int))
  rw [decide_eq_true (by omega)] at HH
  have c5 := h.hc.2.2.2.2.1
  obtain ⟨l0, l1, l2⟩ := h.plAt hg
  have n := pg_nums h.fl.ok h.pos
  have hf := (h.inv.lt g hg).2
  have hcap := h.cap
  clear h
  obtain ⟨f, hf0⟩ : ∃ f, f = S.fr g := ⟨_, rfl⟩
  obtain ⟨m, hm⟩ : ∃ m, m = S.mv g := ⟨_, rfl⟩
  obtain ⟨f8, hf8⟩ : ∃ x, x = 8 * f := ⟨_, rfl⟩
  obtain ⟨fk, hfk⟩ : ∃ x, x = 8 * f + k := ⟨_, rfl⟩
  obtain ⟨G, hG⟩ : ∃ G, G = pgC C := ⟨_, rfl⟩
  rw [← hf0] at l0 hf ⊢
  rw [← hm] at l1
  rw [← hfk]
  rw [← hG] at c5 hg hcap
  have w1 : IntKind.i64.wrap ((f : Int) * 8) = (f8 : Int) := by rw [show (f : Int) * 8 = (f8 : Int) by omega]; exact IntWalk.i64_in _ (by omega)
  have w2 : IntKind.i64.wrap ((f8 : Int) + (k : Int)) = (fk : Int) := by rw [show (f8 : Int) + (k : Int) = (fk : Int) by omega]; exact IntWalk.i64_in _ (by omega)
  have k1 : ¬ (k : Int) < 0 := by omega
  have k2 : ¬ (8 : Int) ≤ (k : Int) := by omega
  have k3 : decide (8 ≤ k) = false := decide_eq_false (by omega)
  have g1 : (g : Int) < (G : Int) := by omega
  have g0 : (0 : Int) ≤ (g : Int) := by omega
  clear hf0 hm hf8 hfk hG n hf
  go_enter Tryz.func95, Tryz.ntmps95
  go_wp2_with fail
  refine HH.out.mono ?_
  rintro e w2 ⟨rfl, rfl⟩
  go_wp2_with fail
  go_ret2
  exact ⟨rfl, rfl⟩
theorem gread_in (h : HgIs w X A a C gd cm F V N lim S) (g k : Nat) (hg : g < pgC C) (hk : k < 8) : Calls Tryz.prog 62 #[.pointer (some ⟨X.pb, 0, none⟩), .int .i64 (g : Int), .int .i64 (k : Int)] w fun e w' => e = .returned (.tuple #[.string (lnF F (8 * S.fr g + k)), .int .i64 0]) ∧ Gr [] w w' := by
  have HF := Lib.hid (gfind_in h g k hg hk)
  have c0 := h.hc.1
  have n := pg_nums h.fl.ok h.pos
  have hf := (h.inv.lt g hg).2
  have HR := Lib.hid (h.fl.read (8 * S.fr g + k) (by omega))
  generalize 8 * S.fr g + k = l at *
  generalize lnF F l = T at *
  clear h n hf
  go_enter Tryz.func62, Tryz.ntmps62
  go_wp2_with fail
  refine HF.out.mono ?_
  rintro e w2 ⟨rfl, rfl⟩
  go_wp2_with fail
  refine HR.out.mono ?_
  rintro e w3 ⟨rfl, g3⟩
  have HG := Lib.hid g3
  clear g3
  go_wp2_with fail
  go_ret2
  exact ⟨rfl, HG.out⟩
/-- A frame, and how often its region moved on. -/
theorem gspot_any (h : HgIs w X A a C gd cm F V N lim S) (q : Nat) (hq : q < frmC C) : Calls Tryz.prog 129 #[.pointer (some ⟨X.pb, 0, none⟩), .int .i64 (q : Int)] w fun e w' => e = .returned (.agg #[.int .i64 (q : Int), .int .u32 (V.J (qL C (8 * q)) : Int)]) ∧ Gr [] w w' := by
  have n := pg_nums h.fl.ok h.pos
  have hl : 8 * q < cR C * cL C := by omega
  have HR := Lib.hid (fun W (g : Gr [] w W) => (h.gr0 g).fl.region (8 * q) hl)
  have HM := Lib.hid (fun W (g : Gr [] w W) => (h.gr0 g).fl.moves (qL C (8 * q)) (qi_in h.fl.ok hl).1)
  have HC := Lib.hid (fun W (g : Gr [] w W) => (h.gr0 g).hc.1)
  obtain ⟨q8, h8⟩ : ∃ x, x = 8 * q := ⟨_, rfl⟩
  rw [← h8] at HR HM ⊢
  have w1 : IntKind.i64.wrap ((q : Int) * 8) = (q8 : Int) := by rw [show (q : Int) * 8 = (q8 : Int) by omega]; exact IntWalk.i64_in _ (by omega)
  obtain ⟨rg, hrg⟩ : ∃ x, x = qL C q8 := ⟨_, rfl⟩
  rw [← hrg] at HR HM ⊢
  obtain ⟨J, hJ⟩ : ∃ x, x = V.J rg := ⟨_, rfl⟩
  rw [← hJ] at HM ⊢
  have g0 := (Gr.refl [] w).alloc (Obj.cells #[.int .i64 0, .int .u32 0] 192)
  have hh := Holds.new w #[.int .i64 0, .int .u32 0] 192
  have H1 := Lib.hid (And.intro g0 hh)
  have c0 := HC.out _ g0
  clear h8 hrg hJ n hl g0 hh h
  go_enter Tryz.func129, Tryz.ntmps129
  go_upto_region 1 with fail
  generalize w.alloc (Obj.cells #[.int .i64 0, .int .u32 0] 192) = w1 at *
  obtain ⟨sb, hsb⟩ : ∃ x, x = w.heap.size := ⟨_, rfl⟩
  rw [← hsb] at H1 ⊢
  have HSB := Lib.hid hsb
  clear hsb
  go_wp2_with fail
  refine (HR.out _ H1.out.1).mono ?_
  rintro e w2 ⟨rfl, g2⟩
  have H2 := Lib.hid (And.intro (H1.out.1.trans g2) (H1.out.2.gr0 g2))
  clear g2 c0
  have c0 := HC.out _ H2.out.1
  go_wp2_with fail
  refine (HM.out _ H2.out.1).mono ?_
  rintro e w3 ⟨rfl, g3⟩
  have H3 := Lib.hid (And.intro (H2.out.1.trans g3) (H2.out.2.gr0 g3))
  clear g3 c0
  have s0 := H3.out.2.cell 0
  have s1 := H3.out.2.cell 1
  have f0 := H3.out.2.frozen 0
  have f1 := H3.out.2.frozen 1
  go_wp2_with fail
  refine bodyPost_ret (v := .agg #[.int .i64 (q : Int), .int .u32 (J : Int)]) (by simp [results, Tryz.results129, go_sem, *]) rfl ⟨rfl, ?_⟩
  repeat (with_reducible first | exact H3.out.1 | refine Gr.setCell ?_ (.inr (by have := HSB.out; (try dsimp only); omega)) _)
end
end Go.Proofs.YtifekejcbhllpaaGreat

/-
  Layer 10: the coolest free frame of pages at work, whatever comes.
-/
namespace Go.Proofs.YtifekejcbhllpaaGreat
open Go.RowKit
set_option linter.unusedVariables false

section
variable {w w' : World} {X : HtA} {A : FlA} {a : DevA} {C : CfgZ} {F : Nat → Nat → Nat} {V : FlV} {gd cm : Bool} {N lim : Nat} {S : HtS}
theorem HgIs.free (h : HgIs w X A a C gd cm F V N lim S) : 1 ≤ (freeL S.tk (frmC C)).length := by
  obtain ⟨n1, n2, n3, n4, n5, n6⟩ := pg_nums h.fl.ok h.pos
  have hR := h.fl.ok.nums.2.2.1
  have hex : ∃ q, q < frmC C ∧ S.tk q = false := by
    refine Classical.byContradiction fun hc => ?_
    have := pigeon10 (pgC C) S.fr (frmC C) (tbC C) (fun q hq => (h.inv.tk q hq).1 (by
      cases e : S.tk q with
      | true => rfl
      | false => exact absurd ⟨q, hq, e⟩ hc))
    omega
  obtain ⟨q, h1, h2⟩ := hex
  have hm := freeL_mem.2 ⟨h1, h2⟩
  cases e : freeL S.tk (frmC C) with
  | nil => rw [e] at hm; simp at hm
  | cons x t => simp
set_option maxRecDepth 100000 in
set_option maxHeartbeats 16000000 in
theorem gcool_any (h : HgIs w X A a C gd cm F V N lim S) : Calls Tryz.prog 128 #[.pointer (some ⟨X.pb, 0, none⟩)] w fun e w' => ∃ q, q < frmC C ∧ S.tk q = false ∧ (∀ q2, q2 < frmC C → S.tk q2 = false → keyQ10 C V.J q ≤ keyQ10 C V.J q2) ∧ e = .returned (.tuple #[.agg #[.int .i64 (q : Int), .int .u32 (V.J (qL C (8 * q)) : Int)], .bool true]) ∧ Gr [] w w' := by
  have HFR := Lib.hid h.free
  obtain ⟨n1, n2, n3, n4, n5, n6⟩ := pg_nums h.fl.ok h.pos
  have HSp := Lib.hid (fun W (g : Gr [] w W) (q : Nat) (hq : q < frmC C) => gspot_any (h.gr0 g) q hq)
  have HTk := Lib.hid (fun W (g : Gr [] w W) => show W.cell? ⟨X.pb, 7, none⟩ = some (.slice (some ⟨X.tb, 0, none⟩) (frmC C) (frmC C)) ∧ ∀ q, q < frmC C → W.cell? ⟨X.tb, q, none⟩ = some (.bool (S.tk q)) from ⟨(h.gr0 g).hc.2.2.2.2.2.2, fun q hq => ((h.gr0 g).tkAt hq).1⟩)
  obtain ⟨H, hH⟩ : ∃ H, H = frmC C := ⟨_, rfl⟩
  rw [← hH] at HFR HSp HTk n2 ⊢
  obtain ⟨ip, hip, hpz0, hpz1, hpz2⟩ := info_parts infoSpot10
  have HIP := Lib.hid (And.intro hip (And.intro hpz0 (And.intro hpz1 hpz2)))
  have v1 := inv_len10
  have ga := (Gr.refl [] w).alloc (Obj.cells #[.int .i64 0, .int .u32 0] 192)
  have gb := ga.alloc (Obj.cells #[.slice none 0 0] 209)
  have hr := (Holds.new w #[.int .i64 0, .int .u32 0] 192).alloc (Obj.cells #[.slice none 0 0] 209)
  have hs0 : (w.alloc (Obj.cells #[.int .i64 0, .int .u32 0] 192)).heap.size = w.heap.size + 1 := World.size_alloc _ _
  have hs := Holds.new (w.alloc (Obj.cells #[.int .i64 0, .int .u32 0] 192)) #[.slice none 0 0] 209
  rw [hs0] at hs
  have HI0 := Lib.hid (And.intro (show SpI C V.J w (w.heap.size + 1) [] 0 (.slice none 0 0) _ from ⟨hs, ⟨rfl, .inl ⟨rfl, rfl⟩⟩, rfl, gb, by omega⟩) hr)
  have HN2 := Lib.hid n2
  clear hH n1 n2 n3 n4 n5 n6 hip hpz0 hpz1 hpz2 ga gb hr hs hs0 h
  go_enter Tryz.func128, Tryz.ntmps128
  go_upto_region 2 with fail
  generalize ((w.alloc (Obj.cells #[.int .i64 0, .int .u32 0] 192)).alloc (Obj.cells #[.slice none 0 0] 209)) = w1 at *
  obtain ⟨rb, hrb⟩ : ∃ x, x = w.heap.size := ⟨_, rfl⟩
  rw [← hrb] at HI0 ⊢
  have HRB := Lib.hid hrb
  clear hrb
  have c7 := (HTk.out _ HI0.out.1.gr).1
  go_wp2_with fail
  clear c7
  go_loopw [16] (fun iv wr => ∃ (q n : Nat) (v : Value), iv = .int .i64 (q : Int) ∧ q ≤ H ∧ Hid (SpI C V.J w (rb + 1) (freeL S.tk q) n v wr) ∧ Holds wr rb #[.int .i64 0, .int .u32 0] 192) (fun iv _ => H - (intOf iv).toNat)
  case atStart => exact ⟨0, 0, _, rfl, by omega, Lib.hid HI0.out.1, HI0.out.2⟩
  case round =>
    clear HI0
    obtain ⟨q, n, v, rfl, hq, HS, hr⟩ := hrel
    have HR := Lib.hid hr
    have hH7 := HN2.out
    clear hr
    by_cases hqH : q < H
    · as_aux_lemma =>
      have iq : (q : Int) < (H : Int) := by omega
      have iq0 : (0 : Int) ≤ (q : Int) := by omega
      have tq := (HTk.out _ HS.out.gr).2 q hqH
      have HQ := Lib.hid (show q + 1 ≤ H from hqH)
      cases htk : S.tk q with
      | true =>
        rw [htk] at tq
        have HTQ := Lib.hid htk
        clear htk
        go_wp2_with fail
        clear tq
        go_roundw
        case rel => exact ⟨q + 1, n, v, by go_num, HQ.out, Lib.hid (by rw [freeL, if_pos HTQ.out]; exact HS.out), HR.out⟩
        case measure => simp [intOf]; omega
      | false =>
        rw [htk] at tq
        have HTQ := Lib.hid htk
        have HSP := Lib.hid (fun W (g : Gr [] wr W) => HSp.out W (HS.out.gr.trans g) q hqH)
        clear htk
        obtain ⟨J, hJ⟩ : ∃ x, x = V.J (qL C (8 * q)) := ⟨_, rfl⟩
        rw [← hJ] at HSP
        have HJ := Lib.hid hJ
        clear hJ
        go_upto_region 6 with fail
        clear tq
        obtain ⟨ao, cap, hv⟩ := own_form9 HS.out.own
        subst hv
        have hnq : n ≤ 2048 := by have := HS.out.len; have := freeL_len (tk := S.tk) q; omega
        have s0 : wr.cell? ⟨rb + 1, 0, none⟩ = some (.slice ao n cap) := HS.out.head.cell 0
        have s0d : wr.drew.cell? ⟨rb + 1, 0, none⟩ = some (.slice ao n cap) := HS.out.head.cell 0
        go_region_law ((first
          | (go_simp; go_at_call 129; (with_reducible refine Calls.mono (HSP.out _ (by repeat (first | exact Gr.refl _ _ | refine Gr.drew ?_ | refine Gr.alloc ?_ _))) ?_); rintro rr w5 ⟨rfl, g5⟩; have g5' : Gr [] wr w5 := (by refine Gr.trans ?_ g5; (repeat (first | exact Gr.refl _ _ | refine Gr.drew ?_))); have H5 := Lib.hid (And.intro (HS.out.gr0 g5') (HR.out.gr0 g5')); have s5 : w5.cell? ⟨rb + 1, 0, none⟩ = some (.slice ao n cap) := H5.out.1.head.cell 0; have s5a : (w5.alloc (Obj.cells #[.int .i64 (q : Int), .int .u32 (J : Int)] 192)).cell? ⟨rb + 1, 0, none⟩ = some (.slice ao n cap) := (H5.out.1.head.gr0 ((Gr.refl [] w5).alloc _)).cell 0; clear g5 g5')
          | (have hT3 := H5.out.1.own.alloc (Obj.cells #[.int .i64 (q : Int), .int .u32 (J : Int)] 192); have hn3 := World.news_of_block (Holds.new w5 #[.int .i64 (q : Int), .int .u32 (J : Int)] 192); have hbs : rb + 1 + 1 ≤ (w5.alloc (Obj.cells #[.int .i64 (q : Int), .int .u32 (J : Int)] 192)).heap.size := (by have := H5.out.1.head.lt; rw [World.size_alloc]; omega); refine step_append_lies _ rfl _ _ 207 rfl (rb + 1 + 1) 192 ip _ 2 16 Tryz.underlying207 HIP.out.1 HIP.out.2.1 HIP.out.2.2.1 HIP.out.2.2.2 rfl (by decide) (.slice ao n cap) n (spotL C V.J (freeL S.tk q)) rfl hT3 ⟨w5.heap.size, 0, none⟩ 1 1 [.int .i64 (q : Int), .int .u32 (J : Int)] rfl rfl hn3 (one_spot10 _ _) Nat.one_pos (by unfold maxLen; omega) (by omega) hbs _ rfl ?_; intro g6 cp6 w7 hown6 hgrow6 hat6 hlt6; have gA := (Gr.refl [] w5).alloc (Obj.cells #[.int .i64 (q : Int), .int .u32 (J : Int)] 192); have hlr : ∀ b, (Value.slice ao n cap).ownBlock = some b → rb + 1 + 1 ≤ b := (fun b e => (H5.out.1.own.lt b e).1); have hd7 := (H5.out.1.head.gr0 gA).gr (gr_grown9 hgrow6) (fun e => by have := hlr (rb + 1) (by simpa using e); omega); have s7 : w7.cell? ⟨rb + 1, 0, none⟩ = some (.slice ao n cap) := hd7.cell 0; have f7 := hd7.frozen 0; have HR7 := Lib.hid (And.intro (H5.out.1.snoc (q := q) gA (by rw [← HJ.out]; exact hown6) hgrow6) (((H5.out.2.gr0 gA).gr (gr_grown9 hgrow6) (fun e => by have := hlr rb (by simpa using e); omega)).far (a := ⟨rb + 1, 0, none⟩) (by show rb ≠ rb + 1; omega) (.slice (some ⟨g6, 0, none⟩) (n + 1) cp6))); clear hown6 hgrow6 hat6 hlt6 gA hlr hd7 hT3 hn3 hbs)))
        all_goals
          go_wp2_with fail
          go_roundw
          case rel => exact ⟨q + 1, n + 1, _, by go_num, HQ.out, Lib.hid (by rw [freeL, if_neg (by rw [HTQ.out]; simp)]; exact HR7.out.1), HR7.out.2⟩
          case measure => simp [intOf]; omega
    · obtain rfl : q = H := by omega
      have ij : ¬ ((q : Int) < (q : Int)) := by omega
      have hn1 : 1 ≤ n := by rw [HS.out.len]; exact HFR.out
      have hn2 : n ≤ 2048 := by have := HS.out.len; have := freeL_len (tk := S.tk) q; omega
      obtain ⟨lb, cap, K, sp, hlb, him⟩ := HS.out.sp hn1 (by omega) (fun x hx => by have := (freeL_mem.1 hx).1; omega)
      have HLB := Lib.hid hlb
      have HP := Lib.hid (And.intro sp (And.intro hlb (And.intro him hn1)))
      have HSL := Lib.hid (slen_any sp)
      have hn0 : ¬ n = 0 := by omega
      have hn0b : ((n : Int) == 0) = false := by simp; omega
      have HGR := Lib.hid HS.out.gr
      clear sp hlb him hn1 hn2 hqH hq HS HSp HTk HIP ip
      go_wp2_with fail
      refine HSL.out.mono ?_
      rintro e w2 ⟨rfl, rfl⟩
      go_wp2_with fail
      refine (sinit_any HP.out.1 HP.out.2.2.2).mono ?_
      rintro e w3 ⟨K2, rfl, s3, p3, i3, g3⟩
      obtain ⟨m, rfl⟩ : ∃ m, n = m + 1 := ⟨n - 1, by have := HP.out.2.2.2; omega⟩
      have hlr : rb ≠ lb := by have h4 := HLB.out; omega
      have HR3 := Lib.hid (And.intro (HR.out.gr g3 (by simpa using hlr)) (HGR.out.nextN g3 (fun x hx => .inr (by have h1 : x = lb := (by simpa using hx); have h2 := HLB.out; have h3 := HRB.out; omega))))
      obtain ⟨q0, m0, k0⟩ := (HP.out.2.2.1 (K2 0)).1 ((i3 (K2 0)).1 ⟨0, by omega, rfl⟩)
      have HQ0 := Lib.hid (And.intro (freeL_mem.1 m0) (show ∀ q2, q2 < q → S.tk q2 = false → keyQ10 C V.J q0 ≤ keyQ10 C V.J q2 from fun q2 h1 h2 => by
        obtain ⟨k, hk, e⟩ := (i3 (keyQ10 C V.J q2)).2 ((HP.out.2.2.1 (keyQ10 C V.J q2)).2 ⟨q2, freeL_mem.2 ⟨h1, h2⟩, rfl⟩)
        rw [k0, ← e]
        exact p3.top k hk))
      have hq06 : q0 < 65536 := by have := (freeL_mem.1 m0).1; omega
      have HPO := Lib.hid (hpop_any s3 p3)
      rw [← k0] at HPO
      unfold frV mvV keyQ10 at HPO
      obtain ⟨J, hJ⟩ : ∃ J, J = V.J (qL C (8 * q0)) := ⟨_, rfl⟩
      rw [← hJ] at HPO
      rw [show (J * 65536 + q0) % 65536 = q0 by omega, show (J * 65536 + q0) / 65536 = J by omega] at HPO
      have HJ := Lib.hid hJ
      clear s3 p3 i3 g3 hlr m0 k0 hq06 hJ HR HGR
      go_wp2_with fail
      refine HPO.out.mono ?_
      rintro e w4 ⟨rfl, g4⟩
      have HR4 := Lib.hid (And.intro (HR3.out.1.gr g4 (by have h4 := HLB.out; simp; omega)) (HR3.out.2.nextN g4 (fun x hx => .inr (by have h1 : x = rb + 1 ∨ x = lb := (by simpa using hx); have h2 := HLB.out; have h3 := HRB.out; omega))))
      clear g4 HR3 HPO
      have r0 := HR4.out.1.cell 0
      have r1 := HR4.out.1.cell 1
      have f0 := HR4.out.1.frozen 0
      have f1 := HR4.out.1.frozen 1
      have hrl := HR4.out.1.lt
      have va := assert10
      go_wp2_with fail
      refine bodyPost_ret (v := .tuple #[.agg #[.int .i64 (q0 : Int), .int .u32 (J : Int)], .bool true]) (by simp [results, Tryz.results128, go_sem, *]) rfl ⟨q0, HQ0.out.1.1, HQ0.out.1.2, HQ0.out.2, by rw [HJ.out], ?_⟩
      repeat (with_reducible first | exact HR4.out.2 | refine Gr.setCell ?_ (.inr (by have := HRB.out; (try dsimp only); omega)) _ | refine Gr.alloc ?_ _ | refine Gr.drew ?_)
end
end Go.Proofs.YtifekejcbhllpaaGreat

/-
  Layer 10: the table is taken in.
-/
namespace Go.Proofs.YtifekejcbhllpaaGreat
open Go.RowKit
set_option linter.unusedVariables false

theorem infoPlace10 : (Tryz.prog.info? 97).map (fun i => (i.zero, i.size, i.bytes)) = some (some (.agg #[.int .i64 0, .int .u32 0]), 2, 16) := by kernel_rfl
def plL (fr mv : Nat → Nat) (n : Nat) : List Value := (List.range n).flatMap fun (q : Nat) => [Value.int .i64 ((fr q : Nat) : Int), Value.int .u32 ((mv q : Nat) : Int)]
theorem plL_snoc (fr mv : Nat → Nat) (n : Nat) : plL fr mv (n + 1) = plL fr mv n ++ [.int .i64 (fr n : Int), .int .u32 (mv n : Int)] := by
  unfold plL
  rw [List.range_succ, List.flatMap_append]
  simp
theorem plL_len (fr mv : Nat → Nat) (n : Nat) : (plL fr mv n).length = n * 2 := by
  induction n with
  | zero => rfl
  | succ n ih => rw [plL_snoc, List.length_append, ih]; simp; omega
theorem plL_get (fr mv : Nat → Nat) (n : Nat) {i : Nat} (h : i < n) : (plL fr mv n)[i * 2]? = some (.int .i64 (fr i : Int)) ∧ (plL fr mv n)[i * 2 + 1]? = some (.int .u32 (mv i : Int)) := by
  induction n with
  | zero => omega
  | succ n ih =>
    rw [plL_snoc]
    by_cases e : i = n
    · subst e
      rw [List.getElem?_append_right (by rw [plL_len]; omega), List.getElem?_append_right (by rw [plL_len]; omega), plL_len, show i * 2 - i * 2 = 0 by omega, show i * 2 + 1 - i * 2 = 1 by omega]
      exact ⟨rfl, rfl⟩
    · rw [List.getElem?_append_left (by rw [plL_len]; omega), List.getElem?_append_left (by rw [plL_len]; omega)]
      exact ih (by omega)
/-- What the table says: frames, moves. -/
structure TbO (C : CfgZ) (F : Nat → Nat → Nat) (fr mv : Nat → Nat) : Prop where
  lt : ∀ g, g < pgC C → tbC C ≤ fr g ∧ fr g < frmC C
  inj : ∀ g g2, g < pgC C → g2 < pgC C → fr g = fr g2 → g = g2
  tab : ∀ g, g < pgC C → F (g / 8) (g % 8) = guardN (mv g * 65536 + fr g)
  mv : ∀ g, g < pgC C → mv g < 4294967296
def ldRow (A : FlA) (C : CfgZ) (lim hb tb : Nat) (v : Value) : Array Value := #[.pointer (some ⟨A.fb, 0, none⟩), .int .i64 (pgC C : Int), .int .i64 (tbC C : Int), .int .i64 (freeC C), .int .i64 (lim : Int), v, .slice (some ⟨hb, 0, none⟩) (pgC C) (pgC C), .slice (some ⟨tb, 0, none⟩) (frmC C) (frmC C)]
/-- n pages are taken in. -/
structure LdI (w0 : World) (A : FlA) (a : DevA) (C : CfgZ) (F : Nat → Nat → Nat) (V : FlV) (c : Nat → Nat) (N lim pb hb tb : Nat) (fr mv : Nat → Nat) (n : Nat) (v : Value) (wr : World) : Prop where
  fl : FLc C A a true F V c N wr
  head : Holds wr pb (ldRow A C lim hb tb v) 103
  own : wr.ownsRow w0.heap.size 97 2 v n (plL fr mv n)
  hts : Holds wr hb (rowOf (fun _ => .int .i64 0) (pgC C)) 3
  tks : ∃ (cur : Array Value) (tk : Nat → Bool), Holds wr tb cur 4 ∧ (∀ q, q < frmC C → cur[q]? = some (.bool (tk q))) ∧ ∀ q, q < frmC C → (tk q = true ↔ (q < tbC C ∨ ∃ g, g < n ∧ fr g = q))
  lo : pb < w0.heap.size ∧ hb < w0.heap.size ∧ tb < w0.heap.size ∧ ∀ x ∈ A.all (cR C) ++ a.all, x < w0.heap.size
  nd : pb ≠ hb ∧ pb ≠ tb ∧ hb ≠ tb
  na : pb ∉ A.all (cR C) ++ a.all ∧ hb ∉ A.all (cR C) ++ a.all ∧ tb ∉ A.all (cR C) ++ a.all
  gr : Gr [pb, tb] w0 wr
section
variable {w0 w1 w2 w6 w w' wr : World} {A : FlA} {a : DevA} {C : CfgZ} {F : Nat → Nat → Nat} {V : FlV} {c : Nat → Nat} {N lim pb hb tb n g cp q : Nat} {fr mv : Nat → Nat} {v : Value}
theorem LdI.gr0 (h : LdI w0 A a C F V c N lim pb hb tb fr mv n v wr) (k : Gr [] wr w') : LdI w0 A a C F V c N lim pb hb tb fr mv n v w' := by
  obtain ⟨cur, tk, q1, q2, q3⟩ := h.tks
  exact ⟨h.fl.gr0 k, h.head.gr0 k, own_gr0 h.own k, h.hts.gr0 k, ⟨cur, tk, q1.gr0 k, q2, q3⟩, h.lo, h.nd, h.na, h.gr.next0 k⟩
/-- A page's frame is taken. -/
structure LdT (w0 : World) (A : FlA) (a : DevA) (C : CfgZ) (F : Nat → Nat → Nat) (V : FlV) (c : Nat → Nat) (N lim pb hb tb : Nat) (fr mv : Nat → Nat) (n : Nat) (v : Value) (wr : World) : Prop where
  fl : FLc C A a true F V c N wr
  head : Holds wr pb (ldRow A C lim hb tb v) 103
  own : wr.ownsRow w0.heap.size 97 2 v n (plL fr mv n)
  hts : Holds wr hb (rowOf (fun _ => .int .i64 0) (pgC C)) 3
  tks : ∃ (cur : Array Value) (tk : Nat → Bool), Holds wr tb cur 4 ∧ (∀ q, q < frmC C → cur[q]? = some (.bool (tk q))) ∧ ∀ q, q < frmC C → (tk q = true ↔ (q < tbC C ∨ ∃ g, g < n + 1 ∧ fr g = q))
  lo : pb < w0.heap.size ∧ hb < w0.heap.size ∧ tb < w0.heap.size ∧ ∀ x ∈ A.all (cR C) ++ a.all, x < w0.heap.size
  nd : pb ≠ hb ∧ pb ≠ tb ∧ hb ≠ tb
  na : pb ∉ A.all (cR C) ++ a.all ∧ hb ∉ A.all (cR C) ++ a.all ∧ tb ∉ A.all (cR C) ++ a.all
  gr : Gr [pb, tb] w0 wr
theorem LdI.take (h : LdI w0 A a C F V c N lim pb hb tb fr mv n v wr) : LdT w0 A a C F V c N lim pb hb tb fr mv n v (wr.setCell ⟨tb, fr n, none⟩ (.bool true)) := by
  obtain ⟨cur, tk, q1, q2, q3⟩ := h.tks
  have gr : Gr [tb] wr (wr.setCell ⟨tb, fr n, none⟩ (.bool true)) := (Gr.refl [tb] wr).setCell (p := ⟨tb, fr n, none⟩) (.inl (by simp)) _
  refine ⟨h.fl.gr gr (fun x hx e => ?_), h.head.far (a := ⟨tb, fr n, none⟩) h.nd.2.1 _, own_gr h.own gr (fun b hb e => ?_), h.hts.far (a := ⟨tb, fr n, none⟩) h.nd.2.2 _, ⟨_, fun q => if q = fr n then true else tk q, q1.set (fr n) _, fun q hq => ?_, fun q hq => ?_⟩, h.lo, h.nd, h.na, h.gr.trans (gr.mono (by simp))⟩
  · have : x = tb := by simpa using e
    exact h.na.2.2 (this ▸ hx)
  · have h1 := (h.own.lt b hb).1
    have h2 := h.lo.2.2.1
    have : b = tb := by simpa using e
    omega
  · have v0 := q2 q hq
    have b0 := (Array.getElem?_eq_some_iff.1 v0).1
    rw [Array.getElem?_setIfInBounds]
    show _ = some (Value.bool (if q = fr n then true else tk q))
    by_cases e : q = fr n
    · rw [if_pos e.symm, if_pos e, if_pos (by omega)]
    · rw [if_neg (fun e2 => e e2.symm), if_neg e]
      exact v0
  · show (if q = fr n then true else tk q) = true ↔ _
    by_cases e : q = fr n
    · rw [if_pos e]
      exact ⟨fun _ => .inr ⟨n, by omega, e.symm⟩, fun _ => rfl⟩
    · rw [if_neg e, q3 q hq]
      constructor
      · rintro (x | ⟨g, hg, x⟩)
        · exact .inl x
        · exact .inr ⟨g, by omega, x⟩
      · rintro (x | ⟨g, hg, x⟩)
        · exact .inl x
        · refine .inr ⟨g, ?_, x⟩
          have : g ≠ n := fun e2 => e (by rw [← x, e2])
          omega
theorem LdT.snoc (h : LdT w0 A a C F V c N lim pb hb tb fr mv n v w1) (g1 : Gr [] w1 w2) (hown : w6.ownsRow w0.heap.size 97 2 (.slice (some ⟨g, 0, none⟩) (n + 1) cp) (n + 1) (plL fr mv n ++ [.int .i64 (fr n : Int), .int .u32 (mv n : Int)]))
    (hg : w2.grownBy w6 v.ownBlock) : LdI w0 A a C F V c N lim pb hb tb fr mv (n + 1) (.slice (some ⟨g, 0, none⟩) (n + 1) cp) (w6.setCell ⟨pb, 5, none⟩ (.slice (some ⟨g, 0, none⟩) (n + 1) cp)) := by
  have hlr : ∀ b, v.ownBlock = some b → w0.heap.size ≤ b ∧ b < w1.heap.size := fun b e => h.own.lt b e
  obtain ⟨l1, l2, l3, l4⟩ := h.lo
  obtain ⟨cur, tk, q1, q2, q3⟩ := h.tks
  have hG : Gr (v.ownBlock.toList ++ [pb]) w1 (w6.setCell ⟨pb, 5, none⟩ (.slice (some ⟨g, 0, none⟩) (n + 1) cp)) := (((g1.of0 (cs := v.ownBlock.toList ++ [pb])).trans ((gr_grown9 hg).mono fun b hb => List.mem_append.2 (.inl hb)))).setCell (p := ⟨pb, 5, none⟩) (.inl (by simp)) _
  have key : ∀ x, x < w0.heap.size → x ≠ pb → x ∉ v.ownBlock.toList ++ [pb] := fun x hx hn e => by
    rcases List.mem_append.1 e with e | e
    · have := (hlr x (by simpa using e)).1; omega
    · exact hn (by simpa using e)
  refine ⟨h.fl.gr hG (fun x hx => key x (l4 x hx) (fun e => h.na.1 (e ▸ hx))), ?_, ?_, h.hts.gr hG (key hb l2 (fun e => h.nd.1 e.symm)), ⟨cur, tk, q1.gr hG (key tb l3 (fun e => h.nd.2.1 e.symm)), q2, q3⟩, h.lo, h.nd, h.na, ?_⟩
  · have hd : Holds w6 pb (ldRow A C lim hb tb v) 103 := (h.head.gr0 g1).gr (gr_grown9 hg) (fun e => by have := (hlr pb (by simpa using e)).1; omega)
    exact hd.set 5 (.slice (some ⟨g, 0, none⟩) (n + 1) cp)
  · rw [plL_snoc]
    exact own_gr hown ((Gr.refl [pb] w6).setCell (p := ⟨pb, 5, none⟩) (.inl (by simp)) _) (fun b hb e => by have := (hown.lt b hb).1; simp at e; omega)
  · refine h.gr.nextN hG fun x hx => ?_
    rcases List.mem_append.1 hx with e | e
    · exact .inr (hlr x (by simpa using e)).1
    · have : x = pb := by simpa using e
      exact .inl (by simp [this])
end
end Go.Proofs.YtifekejcbhllpaaGreat
