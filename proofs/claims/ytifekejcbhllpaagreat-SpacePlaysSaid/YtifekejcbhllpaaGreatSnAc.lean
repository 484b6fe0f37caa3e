/-
  SnAc: HuN, HuO, FlYa, HwA.
-/
import Derived.Test.YtifekejcbhllpaaGreatSkAe
import Derived.Test.YtifekejcbhllpaaGreatSkAf
import Derived.Test.YtifekejcbhllpaaGreatSkAg
import Derived.Test.YtifekejcbhllpaaGreatSkAa
import Derived.Test.YtifekejcbhllpaaGreatSkAb
import Derived.Test.YtifekejcbhllpaaGreatSkAc
import Derived.Test.YtifekejcbhllpaaGreatSkAd
import Derived.Test.YtifekejcbhllpaaGreatSkAh
import Derived.Test.YtifekejcbhllpaaGreatSkAi
import Derived.Test.YtifekejcbhllpaaGreatSkAj
import Derived.Test.YtifekejcbhllpaaGreatSkAk
import Derived.Test.YtifekejcbhllpaaGreatSkAl
import Derived.Test.YtifekejcbhllpaaGreatSkAn
import Derived.Test.YtifekejcbhllpaaGreatSkAo
import Derived.Test.YtifekejcbhllpaaGreatSkAm
import Derived.Test.YtifekejcbhllpaaGreatSkAp
import Derived.Test.YtifekejcbhllpaaGreatSkAq
import Derived.Test.YtifekejcbhllpaaGreatSkAr
import Derived.Test.YtifekejcbhllpaaGreatSkAt
import Derived.Test.YtifekejcbhllpaaGreatSkAu
import Derived.Test.YtifekejcbhllpaaGreatSkAs
import Derived.Test.YtifekejcbhllpaaGreatSkAv
import Derived.Test.YtifekejcbhllpaaGreatSkAw
import Derived.Test.YtifekejcbhllpaaGreatSkAx
import Derived.Test.YtifekejcbhllpaaGreatSkAy
import Derived.Test.YtifekejcbhllpaaGreatSkAz
import Derived.Test.YtifekejcbhllpaaGreatSkBa
import Derived.Test.YtifekejcbhllpaaGreatSkBb
import Derived.Test.YtifekejcbhllpaaGreatSkBc
import Derived.Test.YtifekejcbhllpaaGreatSkBd
import Derived.Test.YtifekejcbhllpaaGreatSkBe
import Derived.Test.YtifekejcbhllpaaGreatSkBf
import Derived.Test.YtifekejcbhllpaaGreatSkBg
import Derived.Test.YtifekejcbhllpaaGreatSkBh
import Derived.Test.YtifekejcbhllpaaGreatSkBi
import Derived.Test.YtifekejcbhllpaaGreatSkBj
import Derived.Test.YtifekejcbhllpaaGreatSkBk
import Derived.Test.YtifekejcbhllpaaGreatSkBl
import Derived.Test.YtifekejcbhllpaaGreatSkBm
import Derived.Test.YtifekejcbhllpaaGreatSkBn
import Derived.Test.YtifekejcbhllpaaGreatSnAb
import Derived.Test.YtifekejcbhllpaaGreatSnAa
import Derived.StillTailTactics
import Derived.Deep.LoopGhost
import Derived.Laws.AppendOwn
import Derived.Shelf.SlIterI.Nil
import Derived.Shelf.SortM.Plain
import Derived.Shelf.SortM.SortNone
import Derived.Ground.GgzProg
import Derived.Ground.SlgmProg
import Derived.Test.YtifekejcbhllpaaGreatRows
import Derived.WalkKit
import Derived.Handy
import Derived.Lib.Hide
import Derived.Lib.AppendStr
import Derived.Deep.QuietTactic
import Derived.BigQuiet
import Derived.KernelRfl
import Derived.Shelf.Strings.Repeat
import Derived.Ground.NamesProg
import Derived.Lib.Agree
import Derived.Deep.MidRow
import Derived.Deep.RegionHeld3
import Derived.Maps.RangeWalk
import Derived.Maps.OwnSet
import Derived.BigRegion
import Derived.Deep.AppendLies
import Derived.Deep.RegionLaw
import Derived.IntWalk
import Derived.Deep.CutBlock
import Derived.WideKeyArr

set_option linter.unusedVariables false

/-
  Layer 10: load, on a device whose lines may be bad.
-/
namespace Go.Proofs.YtifekejcbhllpaaGreat
open Go.RowKit
set_option linter.unusedVariables false

section
variable {w0 w w' wr : World} {A : FlA} {a : DevA} {C : CfgZ} {F : Nat → Nat → Nat} {V : FlV} {gd : Bool} {N lim pb hb tb : Nat} {fr mv : Nat → Nat}
set_option maxRecDepth 100000 in
set_option maxHeartbeats 16000000 in
theorem gload_any (hp : 0 < pgC C) (ht : TbO C F fr mv) (h : LgI w A a C gd F V N lim pb hb tb fr mv 0 (.slice none 0 0) w) :
    Calls Tryz.prog 70 #[.pointer (some ⟨pb, 0, none⟩)] w fun e w' => ∃ v, e = .returned (.int .i64 0) ∧ LgI w A a C gd F V N lim pb hb tb fr mv (pgC C) v w' := by
  have hC := h.fl.ok
  obtain ⟨n1, n2, n3, n4, n5, n6⟩ := pg_nums hC hp
  obtain ⟨G, hG⟩ : ∃ G, G = pgC C := ⟨_, rfl⟩
  obtain ⟨H, hH⟩ : ∃ H, H = frmC C := ⟨_, rfl⟩
  have HN := Lib.hid (And.intro hG (And.intro hH (And.intro n1 (And.intro n2 (And.intro n5 n3)))))
  have HT := Lib.hid ht
  have H0 := Lib.hid h
  have hG7 : G ≤ 2048 := by omega
  have hH7 : H ≤ 2048 := by omega
  have c1 : w.cell? ⟨pb, 1, none⟩ = some (.int .i64 (G : Int)) := by rw [hG]; exact h.head.cell 1
  obtain ⟨ip, hip, hpz0, hpz1, hpz2⟩ := info_parts infoPlace10
  have HIP := Lib.hid (And.intro hip (And.intro hpz0 (And.intro hpz1 hpz2)))
  clear n1 n2 n3 n4 n5 n6 hG hH ht h hip hpz0 hpz1 hpz2
  go_enter Tryz.func70, Tryz.ntmps70
  go_wp2_with fail
  clear c1
  go_loopw [15] (fun iv wr => ∃ (n : Nat) (v : Value), iv = .int .i64 (n : Int) ∧ n ≤ G ∧ Hid (LgI w A a C gd F V N lim pb hb tb fr mv n v wr)) (fun iv _ => G - (intOf iv).toNat)
  case atStart => exact ⟨0, _, rfl, by omega, H0⟩
  case round =>
    clear H0
    obtain ⟨n, v, rfl, hn, HS⟩ := hrel
    by_cases hnG : n < G
    · as_aux_lemma =>
        have inG : (n : Int) < (G : Int) := by omega
        have HI := Lib.hid hnG
        have hng : n < pgC C := by rw [← HN.out.1]; exact hnG
        have hl8 : n / 8 < cR C * cL C := by have := HN.out; omega
        have HRd := Lib.hid (HS.out.fl.read (n / 8) hl8)
        obtain ⟨sz, wd⟩ := HS.out.fl.size (n / 8) hl8
        obtain ⟨T, hT⟩ : ∃ T, T = lnF F (n / 8) := ⟨_, rfl⟩
        rw [← hT] at HRd sz wd
        have hk8 : n % 8 < 8 := Nat.mod_lt _ (by omega)
        have HGt := Lib.hid (fun W => get_at T sz (n % 8) hk8 W)
        rw [wd (n % 8) hk8, HT.out.tab n hng] at HGt
        obtain ⟨lt1, lt2⟩ := HT.out.lt n hng
        have mvn := HT.out.mv n hng
        have hH7' : fr n < 65536 := by have := HN.out; omega
        have key48 : mv n * 65536 + fr n < 281474976710656 := by omega
        have HGd := Lib.hid (fun W => guarded_yes (guardN (mv n * 65536 + fr n)) W (guardN_lt _ (by omega)) (guard_guard key48))
        rw [low_guard key48] at HGd
        have HFa := Lib.hid (fun W => field_any (mv n * 65536 + fr n) 0 16 W (by omega) (by omega) (by omega))
        have HFb := Lib.hid (fun W => field_any (mv n * 65536 + fr n) 16 32 W (by omega) (by omega) (by omega))
        rw [f_a, show (mv n * 65536 + fr n) % 65536 = fr n by omega] at HFa
        rw [f_p, show (mv n * 65536 + fr n) / 65536 % 4294967296 = mv n by omega] at HFb
        obtain ⟨cur, tk, t1, t2, t3⟩ := HS.out.tks
        have tkf : tk (fr n) = false := by
          cases e : tk (fr n) with
          | false => rfl
          | true =>
            rcases (t3 _ lt2).1 e with q | ⟨g, hg, q⟩
            · omega
            · exact absurd (HT.out.inj g n (by omega) hng q) (by omega)
        have HTK := Lib.hid (fun W (g : Gr [] wr W) => show W.cell? ⟨pb, 7, none⟩ = some (.slice (some ⟨tb, 0, none⟩) (frmC C) (frmC C)) ∧ W.cell? ⟨tb, fr n, none⟩ = some (.bool false) ∧ W.frozen? ⟨tb, fr n, none⟩ = false from ⟨(HS.out.gr0 g).head.cell 7, ((t1.gr0 g).cell (fr n)).trans ((t2 _ lt2).trans (by rw [tkf])), (t1.gr0 g).frozen (fr n)⟩)
        rw [← HN.out.2.1] at HTK
        have c0 : wr.cell? ⟨pb, 0, none⟩ = some (.pointer (some ⟨A.fb, 0, none⟩)) := HS.out.head.cell 0
        have htake := Lib.hid (fun W (g : Gr [] wr W) => (HS.out.gr0 g).take)
        generalize guardN (mv n * 65536 + fr n) = GK at *
        generalize mv n * 65536 + fr n = KK at *
        obtain ⟨f, hf⟩ : ∃ f, f = fr n := ⟨_, rfl⟩
        obtain ⟨m, hm⟩ : ∃ m, m = mv n := ⟨_, rfl⟩
        rw [← hf] at HFa HTK htake lt2
        rw [← hm] at HFb
        have HFM := Lib.hid (And.intro hf hm)
        have e1 : (n : Int).tdiv 8 = ((n / 8 : Nat) : Int) := (Int.ofNat_tdiv n 8).symm
        have e2 : (n : Int).tmod 8 = ((n % 8 : Nat) : Int) := (Int.ofNat_tmod n 8).symm
        obtain ⟨l, hl⟩ : ∃ l, l = n / 8 := ⟨_, rfl⟩
        obtain ⟨k, hk⟩ : ∃ k, k = n % 8 := ⟨_, rfl⟩
        obtain ⟨k64, hk64⟩ : ∃ x, x = k * 64 := ⟨_, rfl⟩
        obtain ⟨k8, hk8'⟩ : ∃ x, x = 8 * k := ⟨_, rfl⟩
        rw [← hl] at e1 HRd
        rw [← hk] at e2 HGt hk8
        rw [← hk8'] at HGt
        have q1 : IntKind.i64.wrap (l : Int) = (l : Int) := IntWalk.i64_in _ (by omega)
        have q2 : IntKind.i64.wrap (k : Int) = (k : Int) := IntWalk.i64_in _ (by omega)
        have q3 : IntKind.i64.wrap ((k : Int) * 64) = (k64 : Int) := by rw [show (k : Int) * 64 = (k64 : Int) by omega]; exact IntWalk.i64_in _ (by omega)
        have q4 : (k64 : Int).tdiv 8 = (k8 : Int) := by rw [Int.tdiv_eq_ediv_of_nonneg (by omega)]; omega
        have q5 : IntKind.i64.wrap (k8 : Int) = (k8 : Int) := IntWalk.i64_in _ (by omega)
        have q6 : IntKind.i64.wrap (f : Int) = (f : Int) := IntWalk.i64_in _ (by omega)
        have q7 : IntKind.u32.wrap (m : Int) = (m : Int) := by rw [IntKind.wrap_u32]; omega
        have sz0 : k8 ≤ T.size := by omega
        have sz1 : T.size ≤ 9223372036854775807 := by omega
        have f1 : (f : Int) < (H : Int) := by have := HN.out.2.1; omega
        have f0 : (0 : Int) ≤ (f : Int) := by omega
        have f2 : ¬ (H : Int) ≤ (f : Int) := by omega
        have f3 : decide (H ≤ f) = false := decide_eq_false (by omega)
        clear hT wd lt1 mvn key48 t1 t2 t3 tkf hf hm hl hk hk64 hk8' hk8 hl8 hng lt2 hH7' sz
        go_wp2_with fail
        refine HRd.out.mono ?_
        rintro e w2 ⟨rfl, g2⟩
        have HG2 := Lib.hid g2
        clear g2 c0
        go_wp2_with fail
        refine (HGt.out _).mono ?_
        rintro e w3 ⟨rfl, rfl⟩
        go_wp2_with fail
        refine (HGd.out _).mono ?_
        rintro e w4 ⟨rfl, b4⟩
        have HG4 := Lib.hid (HG2.out.trans (Gr.ofBelow (cs := []) b4))
        clear b4 HG2
        go_wp2_with fail
        refine (HFa.out _).mono ?_
        rintro e w5 ⟨rfl, rfl⟩
        obtain ⟨k7, kt, kz⟩ := HTK.out _ HG4.out
        go_wp2_with fail
        have H5 := Lib.hid (htake.out _ HG4.out)
        clear kt kz k7 HG4 HTK HGt HGd HFa HRd
        generalize w4.setCell ⟨tb, f, none⟩ (.bool true) = w6 at *
        obtain ⟨ao, cap, hv⟩ := own_form9 H5.out.own
        subst hv
        have s0 : w6.cell? ⟨pb, 5, none⟩ = some (.slice ao n cap) := H5.out.head.cell 5
        have s0d : w6.drew.cell? ⟨pb, 5, none⟩ = some (.slice ao n cap) := H5.out.head.cell 5
        have s0a : (w6.drew.alloc (Obj.cells #[.int .i64 (f : Int), .int .u32 (m : Int)] 97)).cell? ⟨pb, 5, none⟩ = some (.slice ao n cap) := (H5.out.head.gr0 (((Gr.refl [] w6).drew).alloc _)).cell 5
        have s0b : (w6.alloc (Obj.cells #[.int .i64 (f : Int), .int .u32 (m : Int)] 97)).cell? ⟨pb, 5, none⟩ = some (.slice ao n cap) := (H5.out.head.gr0 ((Gr.refl [] w6).alloc _)).cell 5
        go_region_law ((first
          | (go_simp; go_at_call 101; (with_reducible refine (HFb.out _).mono ?_); rintro rr w5 ⟨rfl, rfl⟩)
          | (have hT3 := H5.out.own.alloc (Obj.cells #[.int .i64 (f : Int), .int .u32 (m : Int)] 97); have hn3 := World.news_of_block (Holds.new w6 #[.int .i64 (f : Int), .int .u32 (m : Int)] 97); have hbs : w.heap.size ≤ (w6.alloc (Obj.cells #[.int .i64 (f : Int), .int .u32 (m : Int)] 97)).heap.size := (by have := H5.out.gr.size; rw [World.size_alloc]; omega); refine step_append_lies _ rfl _ _ 100 rfl w.heap.size 97 ip _ 2 16 Tryz.underlying100 HIP.out.1 HIP.out.2.1 HIP.out.2.2.1 HIP.out.2.2.2 rfl (by decide) (.slice ao n cap) n (plL fr mv n) rfl hT3 ⟨w6.heap.size, 0, none⟩ 1 1 [.int .i64 (f : Int), .int .u32 (m : Int)] rfl rfl hn3 (one_spot10 _ _) Nat.one_pos (by unfold maxLen; omega) (by omega) hbs _ rfl ?_; intro g6 cp6 w7 hown6 hgrow6 hat6 hlt6; have gA := ((Gr.refl [] w6).alloc (Obj.cells #[.int .i64 (f : Int), .int .u32 (m : Int)] 97)).drew; have hlr : ∀ b, (Value.slice ao n cap).ownBlock = some b → w.heap.size ≤ b := (fun b e => (H5.out.own.lt b e).1); have hd7 := (H5.out.head.gr0 gA).gr (gr_grown9 hgrow6) (fun e => by have h1 := hlr pb (by simpa using e); have h2 := H5.out.lo.1; omega); have s7 : w7.cell? ⟨pb, 5, none⟩ = some (.slice ao n cap) := hd7.cell 5; have f7 := hd7.frozen 5; have HR7 := Lib.hid (H5.out.snoc gA (by rw [← HFM.out.1, ← HFM.out.2]; exact hown6) hgrow6); clear hown6 hgrow6 hat6 hlt6 gA hlr hd7 hT3 hn3 hbs)))
        all_goals
          go_wp2_with fail
          go_roundw
          case rel => exact ⟨n + 1, _, by go_num, HI.out, HR7⟩
          case measure => simp [intOf]; omega
    · obtain rfl : n = G := by omega
      have ij : ¬ ((n : Int) < (n : Int)) := by omega
      clear hnG hn
      go_wp2_with fail
      go_ret
      have e := HN.out.1
      rw [← e]
      exact ⟨rfl, v, HS.out⟩
end
end Go.Proofs.YtifekejcbhllpaaGreat

/-
  Layer 10: Open, on a device whose lines may be bad.
-/
namespace Go.Proofs.YtifekejcbhllpaaGreat
open Go.RowKit
set_option linter.unusedVariables false

section
variable {w0 w w' wr : World} {A : FlA} {a : DevA} {C : CfgZ} {F : Nat → Nat → Nat} {V : FlV} {gd : Bool} {N lim pb hb tb : Nat} {fr mv : Nat → Nat} {D : DevS} {B : Nat → BkS} {j : Nat → Nat}
theorem OpT.lg {tb : Nat} (hC : OkC C) (hp : 0 < pgC C) (fl : FLx C A a gd true F V N w0) (h : OpT w0 A C lim pb hb tb (tbC C) w) : LgI w A a C gd F V N lim pb hb tb fr mv 0 (.slice none 0 0) w := by
  have hlt := fl.lt
  have fw := fl.gr0 h.gr
  have key : ∀ b, w0.heap.size ≤ b → b ∉ A.all (cR C) ++ a.all := fun b hb e => by have := hlt b e; omega
  refine ⟨fw, h.head, ⟨rfl, .inl ⟨rfl, rfl⟩⟩, h.hts, ⟨_, fun q => decide (q < tbC C), h.tks, fun q hq => rowOf_get _ _ _ hq, fun q hq => ?_⟩, ⟨h.head.lt, h.hts.lt, h.tks.lt, fw.fl.lt⟩, h.nd, ⟨key _ h.lo.1, key _ h.lo.2.1, key _ h.lo.2.2⟩, Gr.refl _ _⟩
  constructor
  · intro e; exact .inl (of_decide_eq_true e)
  · rintro (e | ⟨g, hg, _⟩)
    · exact decide_eq_true e
    · omega
/-- Behind load: pages. -/
theorem LgI.done {v : Value} (hp : 0 < pgC C) (ht : TbO C F fr mv) (hm : ∀ g, g < pgC C → mv g ≤ N) (h : LgI w0 A a C gd F V N lim pb hb tb fr mv (pgC C) v wr) : ∃ (X : HtA) (tk : Nat → Bool), X.pb = pb ∧ HgIs wr X A a C gd true F V N lim ⟨fr, mv, fun _ => 0, tk⟩ ∧ ∀ x ∈ X.all, x = pb ∨ x = hb ∨ x = tb ∨ w0.heap.size ≤ x := by
  obtain ⟨cur, tk, q1, q2, q3⟩ := h.tks
  have hd := h.head
  obtain ⟨l1, l2, l3, l4⟩ := h.lo
  obtain ⟨d1, d2, d3⟩ := h.nd
  rcases h.own.2 with ⟨_, hz⟩ | ⟨lb, cl, curr, hvr, hgr, hhr, x1, x2, hsr, htr⟩
  · omega
  rw [hvr] at hd
  refine ⟨⟨pb, lb, cl, hb, tb⟩, tk, rfl, ⟨h.fl, hp, hd, ⟨curr, hhr, fun g hg => ?_⟩, ⟨_, h.hts, fun g hg => ?_⟩, ⟨cur, q1, q2⟩, fun x hx => ?_, ?_, by omega, ⟨ht.lt, ht.inj, q3⟩, ht.tab, hm, fun g hg => Nat.zero_le _⟩, fun x hx => ?_⟩
  · obtain ⟨s1, s2⟩ := plL_get fr mv (pgC C) hg
    rw [← htr] at s1 s2
    rw [List.getElem?_take, if_pos (by omega), Array.getElem?_toList] at s1 s2
    exact ⟨s1, s2⟩
  · exact rowOf_get _ _ _ hg
  · simp only [HtA.all, List.mem_cons, List.not_mem_nil, or_false] at hx
    rcases hx with rfl | rfl | rfl | rfl
    · exact h.na.1
    · intro e; have := l4 _ e; omega
    · exact h.na.2.1
    · exact h.na.2.2
  · exact ⟨by show pb ≠ lb; omega, d1, d2, by show lb ≠ hb; omega, by show lb ≠ tb; omega, d3⟩
  · simp only [HtA.all, List.mem_cons, List.not_mem_nil, or_false] at hx
    rcases hx with rfl | rfl | rfl | rfl
    · exact .inl rfl
    · exact .inr (.inr (.inr hgr))
    · exact .inr (.inl rfl)
    · exact .inr (.inr (.inl rfl))
set_option maxRecDepth 100000 in
set_option maxHeartbeats 16000000 in
theorem gopen_any (hC : OkC C) (hf : FlD C gd F V N D B j) (hd : DevIs w a D) (hN : N < 490000000) (hp : 0 < pgC C) (ht : TbO C F fr mv) (hm : ∀ g, g < pgC C → mv g ≤ N) (hl : 1 ≤ lim) (hl2 : lim < 1000000) :
    Calls Tryz.prog 42 #[.pointer (some ⟨a.bd, 0, none⟩), .int .i64 (lim : Int)] w fun e w' => ∃ (X : HtA) (A : FlA) (tk : Nat → Bool), e = .returned (.tuple #[.pointer (some ⟨X.pb, 0, none⟩), .int .i64 0]) ∧ HgIs w' X A a C gd true F V N lim ⟨fr, mv, fun _ => 0, tk⟩ ∧ (∀ x ∈ X.all ++ A.all (cR C), w.heap.size ≤ x) ∧ Gr [] w w' := by
  obtain ⟨n1, n2, n3, n4, n5, n6⟩ := pg_nums hC hp
  have HP := Lib.hid (And.intro hC (And.intro hp (And.intro ht (And.intro hm hN))))
  have HOp := Lib.hid (flx_open hC hf (by omega) hd)
  have HDL := Lib.hid hd.lt
  have HPl := Lib.hid (fun W => plan_any C hC.wf.1 W)
  obtain ⟨G, hG⟩ : ∃ G, G = pgC C := ⟨_, rfl⟩
  obtain ⟨H, hH⟩ : ∃ H, H = frmC C := ⟨_, rfl⟩
  obtain ⟨T, hT⟩ : ∃ T, T = tbC C := ⟨_, rfl⟩
  have hG7 : G ≤ 2048 := by omega
  have hH7 : H ≤ 2048 := by omega
  have HN := Lib.hid (And.intro hG (And.intro hH (And.intro hT (And.intro n1 (And.intro (show T ≤ H by omega) n2)))))
  rw [← hG, ← hT] at HPl
  obtain ⟨fz, hfz⟩ : ∃ fz, fz = freeC C := ⟨_, rfl⟩
  rw [← hfz] at HPl
  have HFZ := Lib.hid hfz
  have hG0 : ¬ G = 0 := by omega
  have hG0b : ((G : Int) == 0) = false := by simp; omega
  have hl1 : ¬ (lim : Int) < 1 := by omega
  have hl3 : ¬ lim < 1 := by omega
  unfold cfgV at HPl
  clear hf hd hC hp ht hm hN n1 n2 n3 n4 n5 n6 hG hH hT hfz
  go_enter Tryz.func42, Tryz.ntmps42
  go_wp2_with fail
  refine HOp.out.mono ?_
  rintro e w2 ⟨A, rfl, f2, n2, g2⟩
  have H2 := Lib.hid (And.intro f2 (And.intro n2 g2))
  have HCf := Lib.hid (show Calls Tryz.prog 68 #[.pointer (some ⟨A.fb, 0, none⟩)] w2 (fun e w' => e = .returned (.agg #[.int .i64 C.r, .int .i64 C.l, .int .i64 C.s, .int .i64 C.psi, .int .u64 (C.key : Int)]) ∧ Gr [] w2 w') from f2.fl.config)
  clear f2 n2 g2 HOp
  go_wp2_with fail
  refine HCf.out.mono ?_
  rintro e w3 ⟨rfl, g3⟩
  have H3 := Lib.hid (And.intro (H2.out.1.gr0 g3) (H2.out.2.2.trans g3))
  clear g3 HCf
  go_wp2_with fail
  refine (HPl.out _).mono ?_
  rintro e w4 ⟨rfl, g4⟩
  have ga := g4.alloc (Obj.cells #[.int .i64 (G : Int), .int .i64 (T : Int), .int .i64 fz] 99)
  have hh := Holds.new w4 #[.int .i64 (G : Int), .int .i64 (T : Int), .int .i64 fz] 99
  have H4 := Lib.hid (And.intro (H3.out.1.gr0 ga) (And.intro (H3.out.2.trans ga) hh))
  clear g4 ga hh HPl H3
  go_upto_region 9 with fail
  generalize w4.alloc (Obj.cells #[.int .i64 (G : Int), .int .i64 (T : Int), .int .i64 fz] 99) = w5 at *
  obtain ⟨yb, hyb⟩ : ∃ b, w4.heap.size = b := ⟨_, rfl⟩
  rw [hyb] at H4 ⊢
  clear hyb
  have y0 := H4.out.2.2.cell 0
  have y1 := H4.out.2.2.cell 1
  have y2 := H4.out.2.2.cell 2
  go_upto_region 11 with fail
  have mk1 := make_run (.int .i64 0) 8 G (G : Int) rfl Tryz.underlying101 infoI10 rfl (by omega) (by omega)
  have mk2 := make_run (.bool false) 1 H (H : Int) rfl Tryz.underlying59 infoB10 rfl (by omega) (by omega)
  have HLn := Lib.hid (fun W (g : Gr [] w5 W) => (H4.out.1.gr0 g).fl.lines)
  obtain ⟨N8, hN8⟩ : ∃ x, x = cR C * cL C := ⟨_, rfl⟩
  rw [← hN8] at HLn
  have t8 : (N8 : Int).tdiv 8 = (H : Int) := by rw [Int.tdiv_eq_ediv_of_nonneg (by omega)]; have := HN.out; omega
  have wH : IntKind.i64.wrap (H : Int) = (H : Int) := IntWalk.i64_in _ (by omega)
  have S0 : w5.cell? ⟨yb, 0, none⟩ = some (.int .i64 (G : Int)) ∧ w5.cell? ⟨yb, 1, none⟩ = some (.int .i64 (T : Int)) ∧ w5.cell? ⟨yb, 2, none⟩ = some (.int .i64 fz) := ⟨y0, y1, y2⟩
  have S0d := kD3h S0
  clear hN8 y0 y1 y2
  go_cut [9] (fun pv wz => ∃ pb hb tb : Nat, pv = .pointer (some ⟨pb, 0, none⟩) ∧ OpW w5 A C lim pb hb tb wz)
  case first =>
    go_region_held3 (fun w' : World => w'.cell? ⟨yb, 0, none⟩ = some (.int .i64 (G : Int)) ∧ w'.cell? ⟨yb, 1, none⟩ = some (.int .i64 (T : Int)) ∧ w'.cell? ⟨yb, 2, none⟩ = some (.int .i64 fz)) (with_reducible (first | assumption | ((repeat (first | assumption | refine kD3h ?_ | refine kA3h ?_)); done))) ((go_at_call 69; (with_reducible refine (HLn.out _ (by repeat (first | exact Gr.refl _ _ | refine Gr.drew ?_ | refine Gr.alloc ?_ _))).mono ?_); rintro rr w8 ⟨rfl, g8⟩; (with_reducible have S8 := keep3h (by assumption) g8); (first
      | ((with_reducible have yh := afterZ1 g8); have yh1 := yh.1; have yh2 := yh.2; clear yh g8)
      | ((with_reducible have yh2 := afterZ0 g8); clear g8))))
    all_goals (go_wp2_with fail; go_meet)
    all_goals
      obtain ⟨eG, eH, eT, _⟩ := HN.out
      have eF := HFZ.out
      subst eG
      subst eH
      subst eT
      subst eF
    all_goals first
      | exact ⟨_, _, _, rfl, opw_A yh2 yh1⟩
      | exact ⟨_, _, _, rfl, opw_B yh2⟩
      | exact ⟨_, _, _, rfl, opw_C yh2⟩
  case rest =>
    obtain ⟨pb, hb, tb, rfl, ow⟩ := hcut
    obtain ⟨wy, hwy⟩ : ∃ wy, wy = wc := ⟨_, rfl⟩
    rw [← hwy] at ow ⊢
    have HW := Lib.hid ow.start
    have y1 := (H4.out.2.2.gr0 ow.gr).cell 1
    simp only [List.getElem?_toArray, List.getElem?_cons_succ, List.getElem?_cons_zero] at y1
    have hT7 : T ≤ 2048 := by have := HN.out; omega
    have hTH : T ≤ H := HN.out.2.2.2.2.1
    clear hwy ow S0 S0d mk1 mk2 HLn t8 wH
    go_wp2_with fail
    clear y1
    go_loopw [44] (fun iv wr => ∃ n : Nat, iv = .int .i64 (n : Int) ∧ n ≤ T ∧ Hid (OpT w5 A C lim pb hb tb n wr)) (fun iv _ => T - (intOf iv).toNat)
    case atStart => exact ⟨0, rfl, by omega, HW⟩
    case round =>
      clear HW
      obtain ⟨n, rfl, hn, HS⟩ := hrel
      by_cases hnT : n < T
      · as_aux_lemma =>
          have i1 : (n : Int) < (T : Int) := by omega
          have i2 : (n : Int) < (H : Int) := by omega
          have i3 : (0 : Int) ≤ (n : Int) := by omega
          have c7 : wr.cell? ⟨pb, 7, none⟩ = some (.slice (some ⟨tb, 0, none⟩) (frmC C) (frmC C)) := HS.out.head.cell 7
          have tz := (HS.out.tks.cell n).trans (show (tkN C n)[n]? = some (.bool (decide (n < n))) from rowOf_get _ _ _ (by have := HN.out; omega))
          have tf := HS.out.tks.frozen n
          rw [← HN.out.2.1] at c7
          have HX := Lib.hid HS.out.next
          have HI := Lib.hid hnT
          go_wp2_with fail
          clear c7 tz tf
          go_roundw
          case rel => exact ⟨n + 1, by go_num, HI.out, HX⟩
          case measure => simp [intOf]; omega
      · obtain rfl : n = T := by omega
        have ij : ¬ ((n : Int) < (n : Int)) := by omega
        have HLd := Lib.hid (gload_any (lim := lim) (fr := fr) (mv := mv) HP.out.2.1 HP.out.2.2.1 (OpT.lg HP.out.1 HP.out.2.1 H4.out.1 (by have e := HN.out.2.2.1; rw [← e]; exact HS.out)))
        clear hnT hn
        go_wp2_with fail
        refine HLd.out.mono ?_
        rintro e w9 ⟨v, rfl, h9⟩
        have H9 := Lib.hid h9
        clear h9 HLd
        go_wp2_with fail
        go_ret2
        obtain ⟨X, tk, x1, x2, x3⟩ := H9.out.done HP.out.2.1 HP.out.2.2.1 HP.out.2.2.2.1
        have hlo := HS.out.lo
        have hsz := (H4.out.2.1.trans HS.out.gr).size
        have hs5 := H4.out.2.1.size
        refine ⟨X, A, tk, by rw [x1]; rfl, x2, fun x hx => ?_, (H4.out.2.1.trans HS.out.gr).nextN H9.out.gr (fun x hx => .inr ?_)⟩
        · rcases List.mem_append.1 hx with hx | hx
          · rcases x3 x hx with e | e | e | e <;> omega
          · exact H2.out.2.1 x hx
        · simp only [List.mem_cons, List.not_mem_nil, or_false] at hx
          omega
end
end Go.Proofs.YtifekejcbhllpaaGreat

/-
  FlatKeeps: a set of ints (a map to bool), a slice of texts, a line that breaks.
-/
namespace Go.Proofs.YtifekejcbhllpaaGreat
open Go.RowKit
set_option linter.unusedVariables false

section
variable {w w' : World} {A : FlA} {a : DevA} {C : CfgZ} {F : Nat → Nat → Nat} {V : FlV} {N : Nat}
/-- A line breaks: the list stands. -/
theorem FL.break (h : FL C A a false F V N w) (l : Nat) (hl : l < cR C * cL C) :
    Calls Tryz.prog 21 #[.pointer (some ⟨a.bd, 0, none⟩), .int .i64 (V.W l : Int)] w fun e w' => e = .returned (.tuple #[]) ∧ FL C A a false F V N w' ∧ Gr a.all w w' := by
  obtain ⟨ok, D, B, j, c, h1, h2, h3⟩ := h
  obtain ⟨p1, p2, p3, p4⟩ := h1.pos ok hl
  obtain ⟨hq, hi⟩ := qi_in ok hl
  refine (break_in a D (V.W l) w h3 p4).mono ?_
  rintro e w2 ⟨rfl, d2, g2⟩
  have g3 : Gr a.all w w2 := g2.mono (fun b hb => by simp at hb; subst hb; simp [DevA.all])
  have hbg : ∀ x ∈ A.all (cR C), x ∉ [a.bg] := fun x hx e => by
    have e' := List.mem_singleton.1 e
    subst e'
    unfold FlA.all at hx
    rcases List.mem_append.1 hx with hx | hx
    · have hm : a.bg ∈ a.all := by simp [DevA.all]
      obtain ⟨n1, n2, n3⟩ := h2.na
      simp at hx
      rcases hx with e | e | e
      · exact n1 (e ▸ hm)
      · exact n2 (e ▸ hm)
      · exact n3 (e ▸ hm)
    · obtain ⟨q, hq, hx⟩ := List.mem_flatMap.1 hx
      have R := h2.rg q (List.mem_range.1 hq)
      have hm : a.bg ∈ a.all := by simp [DevA.all]
      unfold FlA.reg at hx
      rcases List.mem_cons.1 hx with e | e
      · exact R.ka (e ▸ hm)
      · exact R.bk.sep _ e hm
  refine ⟨rfl, ⟨ok, { D with bad := fun j => if j = V.W l then true else D.bad j }, B, j, c, ⟨⟨h1.calm.off, h1.calm.fuse, h1.calm.buf⟩, (fun q => absurd q (by decide)), h1.fit, ?_, h1.vs, h1.mv, h1.bd⟩, h2.gr g2 hbg, d2⟩, g3⟩
  obtain ⟨G, L, hF⟩ := h1.ls
  refine ⟨G, ⟨L.hd, fun q hq1 => ?_⟩, hF⟩
  obtain ⟨r1, r2, r3, r4, r5, r6, r7, r8⟩ := ok.reg hq1
  have R := L.rg q hq1
  refine ⟨R.ti.keep ⟨h1.calm.off, h1.calm.fuse, h1.calm.buf⟩ rfl (fun x _ => rfl) r1.ok (fun l2 q1 q2 => ?_), R.reg, R.wd⟩
  show (if l2 = V.W l then true else D.bad l2) = false
  rw [if_neg]
  · exact R.ti.tb l2 q1 q2
  · rintro rfl
    by_cases e : q = qL C l
    · subst e
      have : (bankR (regC C (qL C l))).a = (regC C (qL C l)).a := rfl
      omega
    · have ha := ok.apart hq hq1 (fun q => e q.symm)
      have ha' : (regC C (qL C l)).a + sizeZ (bankR (regC C (qL C l))) ≤ (regC C q).a ∨ (regC C q).a + sizeZ (bankR (regC C q)) ≤ (regC C (qL C l)).a := ha
      obtain ⟨s1, _⟩ := ok.reg hq
      obtain ⟨u1, u2, u3, u4, u5, u6⟩ := rg_nums r1
      obtain ⟨v1, v2, v3, v4, v5, v6⟩ := rg_nums s1
      have : (bankR (regC C q)).a = (regC C q).a := rfl
      omega
end
section
variable {w wr w2 : World} {C : CfgZ} {a : DevA} {nb : Nat} {K : Nat → ByteArray} {A : FlA} {V V2 : FlV} {N N2 : Nat}
end
end Go.Proofs.YtifekejcbhllpaaGreat

/-
  HotKeeps: pages whose lines may be bad: where they are, a line breaks, they are opened anew.
-/
namespace Go.Proofs.YtifekejcbhllpaaGreat
open Go.RowKit
set_option linter.unusedVariables false

section
variable {w w' : World} {X : HtA} {A : FlA} {a : DevA} {C : CfgZ} {gd cm : Bool} {F F' : Nat → Nat → Nat} {V V' : FlV} {N N' lim : Nat} {S : HtS} {Y Y' : Nat → Nat → Nat → Nat}
theorem FLx.weak (h : FLx C A a gd cm F V N w) : FLx C A a false cm F V N w := by
  obtain ⟨ok, D, B, j, c, h1, r⟩ := h
  exact ⟨ok, D, B, j, c, ⟨h1.calm, (fun q => absurd q (by simp)), h1.fit, h1.ls, h1.vs, h1.mv, h1.bd⟩, r⟩
theorem HLg.weak (h : HLg C X A a gd cm lim Y N w) : HLg C X A a false cm lim Y N w := by
  obtain ⟨l1, l2, F, V, S, h1, h2⟩ := h
  exact ⟨l1, l2, F, V, S, ⟨h1.fl.weak, h1.pos, h1.head, h1.pls, h1.hts, h1.tks, h1.na, h1.nd, h1.cap, h1.inv, h1.tab, h1.mvb, h1.htb⟩, h2⟩
theorem gflat_any (h : HgIs w X A a C gd cm F V N lim S) : Calls Tryz.prog 19 #[.pointer (some ⟨X.pb, 0, none⟩)] w fun e w' => e = .returned (.pointer (some ⟨A.fb, 0, none⟩)) ∧ w' = w := by
  have c0 := h.hc.1
  clear h
  go_enter Tryz.func19, Tryz.ntmps19
  go_wp2_with fail
  go_ret
  exact ⟨rfl, rfl⟩
theorem gframe_in (h : HgIs w X A a C gd cm F V N lim S) (g : Nat) (hg : g < pgC C) : Calls Tryz.prog 18 #[.pointer (some ⟨X.pb, 0, none⟩), .int .i64 (g : Int)] w fun e w' => e = .returned (.tuple #[.int .i64 (S.fr g : Int), .int .i64 0]) ∧ w' = w := by
  have HH := Lib.hid (ghas_any h (g : Int))
  rw [decide_eq_true (by omega)] at HH
  have c5 := h.hc.2.2.2.2.1
  obtain ⟨l0, l1, l2⟩ := h.plAt hg
  have n := pg_nums h.fl.ok h.pos
  have hcap := h.cap
  clear h
  obtain ⟨f, hf0⟩ : ∃ f, f = S.fr g := ⟨_, rfl⟩
  obtain ⟨m, hm⟩ : ∃ m, m = S.mv g := ⟨_, rfl⟩
  obtain ⟨G, hG⟩ : ∃ G, G = pgC C := ⟨_, rfl⟩
  rw [← hf0] at l0 ⊢
  rw [← hm] at l1
  rw [← hG] at c5 hg hcap
  have g1 : (g : Int) < (G : Int) := by omega
  have g0 : (0 : Int) ≤ (g : Int) := by omega
  clear hf0 hm hG n
  go_enter Tryz.func18, Tryz.ntmps18
  go_wp2_with fail
  refine HH.out.mono ?_
  rintro e w2 ⟨rfl, rfl⟩
  go_wp2_with fail
  go_ret2
  exact ⟨rfl, rfl⟩
/-- A line breaks: the pages stand. -/
theorem HgIs.break (h : HgIs w X A a C false true F V N lim S) (l : Nat) (hl : l < cR C * cL C) :
    Calls Tryz.prog 21 #[.pointer (some ⟨a.bd, 0, none⟩), .int .i64 (V.W l : Int)] w fun e w' => e = .returned (.tuple #[]) ∧ HgIs w' X A a C false true F V N lim S ∧ Gr a.all w w' := by
  refine (h.fl.fl.break l hl).mono ?_
  rintro e w2 ⟨rfl, f2, g2⟩
  have hn : ∀ x ∈ X.all, x ∉ a.all := fun x hx e => h.na x hx (List.mem_append.2 (.inr e))
  obtain ⟨c1, q1, q2⟩ := h.pls
  obtain ⟨c2, q3, q4⟩ := h.hts
  obtain ⟨c3, q5, q6⟩ := h.tks
  exact ⟨rfl, ⟨.of f2, h.pos, h.head.gr g2 (hn _ (by simp [HtA.all])), ⟨c1, q1.gr g2 (hn _ (by simp [HtA.all])), q2⟩, ⟨c2, q3.gr g2 (hn _ (by simp [HtA.all])), q4⟩, ⟨c3, q5.gr g2 (hn _ (by simp [HtA.all])), q6⟩, h.na, h.nd, h.cap, h.inv, h.tab, h.mvb, h.htb⟩, g2⟩
theorem gwhere_in (h : HgIs w X A a C gd true F V N lim S) (l : Nat) (hl : l < cR C * cL C) :
    Calls Tryz.prog 20 #[.pointer (some ⟨A.fb, 0, none⟩), .int .i64 (l : Int)] w fun e w' => e = .returned (.tuple #[.int .i64 (V.W l : Int), .int .i64 0]) ∧ Gr [] w w' := h.fl.fl.where l hl
/-- They are opened anew: they read the same. -/
theorem HLg.again (h : HLg C X A a gd true lim Y N w) (hN : N < 490000000) :
    Calls Tryz.prog 42 #[.pointer (some ⟨a.bd, 0, none⟩), .int .i64 (lim : Int)] w fun e w' => ∃ (X2 : HtA) (A2 : FlA), e = .returned (.tuple #[.pointer (some ⟨X2.pb, 0, none⟩), .int .i64 0]) ∧ HLg C X2 A2 a gd true lim Y N w' ∧ (∀ x ∈ X2.all ++ A2.all (cR C), w.heap.size ≤ x) ∧ Gr [] w w' := by
  obtain ⟨l1, l2, F, V, S, h1, h2⟩ := h
  have ht := h1.tbo (by omega)
  obtain ⟨ok, D, B, j, c, f1, f2, d3⟩ := h1.fl.fl
  refine (gopen_any ok f1 d3 hN h1.pos ht h1.mvb l1 l2).mono ?_
  rintro e w2 ⟨X2, A2, tk, rfl, q, n, g⟩
  exact ⟨X2, A2, rfl, ⟨l1, l2, F, V, _, q, h2⟩, n, g⟩
end
end Go.Proofs.YtifekejcbhllpaaGreat
