/-
  Layer 14: the document's answer, Take.
-/
import Derived.Test.YtpkhfdcokcchdaaAlW
import Derived.Deep.RegionHeld3
namespace Go.Proofs.Ytpkhfdcokcchdaa
open Go.RowKit

theorem rset_yes (N a n : Nat) (m : Nat → Bool) (ao : Option Addr) (cap : Nat) (f : Bool) (w : World) (h : RdM w ao N m) (hN : N ≤ 65536) (hcap : N ≤ cap) (hn : 1 ≤ n) (ha : a + n ≤ N) (hall : ∀ b, inR a n b = true → m b = !f) :
    Calls Try.prog 19 #[.slice ao N cap, .int .i64 a, .int .i64 n, .bool f] w fun e w' =>
      ∃ g c, e = .returned (.tuple #[.slice (some ⟨g, 0, none⟩) N c, .int .i64 0]) ∧ RdM w' (some ⟨g, 0, none⟩) N (setM m a n f) ∧ N ≤ c ∧ Gr [] w w' := by
  refine (rset_any N a n m ao cap f w h hN hcap hn ha).mono ?_
  rintro e w' ⟨g, ⟨⟨b, hb, hf⟩, _⟩ | ⟨_, k, c, rfl, ho⟩⟩
  · have := hall b hb
    rw [hf] at this
    cases f <;> simp at this
  · refine ⟨k, c, rfl, own_rdM ho, ?_, g⟩
    rcases ho.2 with ⟨q, _⟩ | ⟨g', cap', cur, q, _, _, h1, _⟩
    · cases q
    · injection q with _ _ q3
      omega
theorem rset_none (N a n : Nat) (m : Nat → Bool) (ao : Option Addr) (cap : Nat) (f : Bool) (w : World) (h : RdM w ao N m) (hN : N ≤ 65536) (hcap : N ≤ cap) (hn : 1 ≤ n) (ha : a + n ≤ N) (hex : ∃ b, inR a n b = true ∧ m b = f) :
    Calls Try.prog 19 #[.slice ao N cap, .int .i64 a, .int .i64 n, .bool f] w fun e w' => e = .returned (.tuple #[.slice none 0 0, .int .i64 8]) ∧ Gr [] w w' := by
  refine (rset_any N a n m ao cap f w h hN hcap hn ha).mono ?_
  rintro e w' ⟨g, ⟨_, rfl⟩ | ⟨hall, k, c, rfl, ho⟩⟩
  · exact ⟨rfl, g⟩
  · obtain ⟨b, hb, hf⟩ := hex
    have := hall b hb
    rw [hf] at this
    cases f <;> simp at this

theorem rtake_arg (N : Nat) (ao : Option Addr) (cap : Nat) (n : Int) (w : World) (hn : n < 1) :
    Calls Try.prog 22 #[.slice ao N cap, .int .i64 n] w fun e w' => e = .returned (.tuple #[.slice none 0 0, .slice none 0 0, .int .i64 2]) ∧ Gr [] w w' := by
  have d1 : decide (n < 1) = true := by simpa using hn
  have HG := Lib.hid (Gr.refl [] w)
  go_enter Try.func22, Try.ntmps22
  go_wp2_with fail
  exact bodyPost_ret (v := .tuple #[.slice none 0 0, .slice none 0 0, .int .i64 2]) (by simp [results, Try.results22, go_sem]) rfl ⟨rfl, HG.out⟩
theorem fitZ_neg {l : List (Nat × Nat)} {n : Nat} (h : fitZ l n < 0) : fitZ l n = -1 := by
  unfold fitZ at h ⊢
  cases q : fitI l n with
  | some i => rw [q] at h; simp only at h; omega
  | none => rfl
theorem fitZ_lo (l : List (Nat × Nat)) (n : Nat) : -1 ≤ fitZ l n ∧ fitZ l n ≤ l.length := by
  unfold fitZ
  cases q : fitI l n with
  | some i =>
    obtain ⟨e, he, _⟩ := fitI_some q
    have := (List.getElem?_eq_some_iff.1 he).1
    simp only; omega
  | none => simp only; omega
theorem kD3 {W wr : World} {a b : Addr} {x y : Value} (h : W.cell? a = some x ∧ W.cell? b = some y ∧ Gr [] wr W) : W.drew.cell? a = some x ∧ W.drew.cell? b = some y ∧ Gr [] wr W.drew := ⟨h.1, h.2.1, h.2.2.drew⟩
theorem kG3 {W wr w5 : World} {b o p : Nat} {x y : Value} (h : W.cell? ⟨b, o, none⟩ = some x ∧ W.cell? ⟨b, p, none⟩ = some y ∧ Gr [] wr W) (g : Gr [] W w5) : w5.cell? ⟨b, o, none⟩ = some x ∧ w5.cell? ⟨b, p, none⟩ = some y ∧ Gr [] wr w5 :=
  have hb := World.block_lt_of_cell? W _ h.1
  ⟨(g.cell0 hb).trans h.1, (g.cell0 hb).trans h.2.1, h.2.2.next0 g⟩
theorem own_lo {w : World} {base : Nat} {e : TypeId} {size n : Nat} {v : Value} {xs : List Value} (h : w.ownsRow base e size v n xs) (ao : Option Addr) (cap : Nat) (hv : v = .slice ao n cap) : n ≤ cap := by
  rcases h.2 with ⟨q, _⟩ | ⟨g', cap', cur, q, _, _, h1, _⟩
  · rw [hv] at q; injection q with _ q2 _; omega
  · rw [hv] at q; injection q with _ _ q3; omega

set_option maxHeartbeats 16000000 in
set_option maxRecDepth 20000 in
theorem rtake_any (N n : Nat) (m : Nat → Bool) (ao : Option Addr) (cap : Nat) (w : World) (h : RdM w ao N m) (hN : N ≤ 65536) (hcap : N ≤ cap) (hn : 1 ≤ n) (hnb : n < 9223372036854775808) :
    Calls Try.prog 22 #[.slice ao N cap, .int .i64 n] w fun e w' => Gr [] w w' ∧
      (sumL (extP m N) < n ∧ e = .returned (.tuple #[.slice none 0 0, .slice none 0 0, .int .i64 12]) ∨
       n ≤ sumL (extP m N) ∧ ∃ ao' cap' a2 c2, e = .returned (.tuple #[.slice ao' N cap', .slice a2 (takeL (extP m N) n).2.length c2, .int .i64 0]) ∧ N ≤ cap' ∧ RdM w' ao' N (leftM m (takeL (extP m N) n).2 (takeL (extP m N) n).2.length) ∧ Sl2 w' (.slice a2 (takeL (extP m N) n).2.length c2) (zl (takeL (extP m N) n).2)) := by
  obtain ⟨i0, hi0, hz0, hz1, hz2⟩ := info_parts infoP2
  have HS := Lib.hid h
  have HE := Lib.hid (fun W (g : Gr [] w W) => rext_any N m ao cap W (HS.out.gr0 g) hN)
  obtain ⟨l, hl⟩ : ∃ l, l = extP m N := ⟨_, rfl⟩
  have hx := extP_ok m N
  rw [← hl] at HE hx ⊢
  obtain ⟨hr, hc⟩ := hx
  have HR := Lib.hid hr
  have HC := Lib.hid (show ∀ b, covB l b = true → m b = true from fun b hb => by rw [hc] at hb; simp at hb; exact hb.2)
  have hsum := sumL_le hr
  have hlen := len_le hr
  have HK := Lib.hid (fun (hs : n ≤ sumL l) => takeL_ok hr hn hs)
  clear h hl hr hc
  have d1 : decide ((n : Int) < 1) = false := by simp; omega
  obtain ⟨s, hs⟩ : ∃ s, s = sumL l := ⟨_, rfl⟩
  obtain ⟨L, hL⟩ : ∃ L, L = l.length := ⟨_, rfl⟩
  rw [← hs] at hsum hlen HK ⊢
  rw [← hL] at HE hlen
  have HSL := Lib.hid (And.intro hs hL)
  have hs2 : s ≤ 65536 := by omega
  have hL2 : L ≤ 65536 := by omega
  clear hs hL hsum hlen
  go_enter Try.func22, Try.ntmps22
  go_wp2_with fail
  refine (HE.out _ (Gr.refl [] _)).mono ?_
  rintro e w1 ⟨v, rfl, ho, g1⟩
  have hr1 := own_sl2 ho
  obtain ⟨a1, c1, rfl⟩ := own_form ho
  have hcl : L ≤ c1 := own_lo ho _ _ rfl
  obtain ⟨a1', c1', hv, hrd, -⟩ := hr1
  rw [zl_len, ← HSL.out.2] at hv
  injection hv with q1 _ q3
  subst q1 q3
  have H1 := Lib.hid (And.intro hrd g1)
  clear HE ho hrd g1
  go_wp2_with fail
  go_loopw [8, 9, 10] (fun al fi i wr => ∃ k : Nat, k ≤ L ∧ i = .int .i64 k ∧ al = .int .i64 (sumL (l.take k)) ∧ fi = .int .i64 (fitZ (l.take k) n) ∧ w1 = wr) (fun _ _ i _ => L - (intOf i).toNat)
  case atStart => exact ⟨0, by omega, rfl, rfl, rfl, rfl⟩
  case round =>
    obtain ⟨k, hk, rfl, rfl, rfl, rfl⟩ := hrel
    by_cases hlt : k < L
    · obtain ⟨e, he⟩ : ∃ e, l[k]? = some e := ⟨_, List.getElem?_eq_getElem (by have := HSL.out.2; omega)⟩
      have q : (zl l)[k]? = some ((e.1 : Int), (e.2 : Int)) := by rw [zl_get, he]; rfl
      obtain ⟨b, o, hao, hb, x1, x2⟩ := H1.out.1 k _ q
      subst hao
      have hst := fitZ_step (n := n) he
      have hsu := sumL_take_succ he
      have hb1 := sumL_take_le l (k + 1)
      have hb3 := fitZ_lo (l.take k) n
      have hb4 := fitZ_neg (l := l.take k) (n := n)
      rw [← HSL.out.1] at hb1
      obtain ⟨s1, hs1⟩ : ∃ s1, s1 = sumL (l.take k) := ⟨_, rfl⟩
      obtain ⟨s2, hs2⟩ : ∃ s2, s2 = sumL (l.take (k + 1)) := ⟨_, rfl⟩
      obtain ⟨z, hz⟩ : ∃ z, z = fitZ (l.take k) n := ⟨_, rfl⟩
      rw [← hs1, ← hs2] at hsu
      rw [← hs2] at hb1
      rw [← hz] at hst hb3 hb4
      rw [← hs1, ← hz]
      have hsi : (s1 : Int) + (e.2 : Int) = (s2 : Int) := by omega
      have HS2 := Lib.hid hs2
      clear hs1 hs2 q he x1 hsu
      by_cases hz0' : z < 0
      · have dz : decide (z < 0) = true := by simpa using hz0'
        rw [if_pos hz0'] at hst
        have hz1' := hb4 hz0'
        by_cases hne : n ≤ e.2
        · have hne2 : (n : Int) ≤ (e.2 : Int) := by omega
          rw [if_pos hne] at hst
          have HST := Lib.hid hst
          clear hst hz hb4 hz1'
          go_wp2_with fail
          go_roundw
          case rel => exact ⟨k + 1, by omega, by go_num, by rw [HS2.out], by rw [HST.out], by first | rfl | trivial⟩
          case measure => simp [intOf]; omega
        · have hne2 : ¬ (n : Int) ≤ (e.2 : Int) := by omega
          rw [if_neg hne, ← hz1'] at hst
          have HST := Lib.hid hst
          clear hst hz hb4 hz1'
          go_wp2_with fail
          go_roundw
          case rel => exact ⟨k + 1, by omega, by go_num, by rw [HS2.out], by rw [HST.out], by first | rfl | trivial⟩
          case measure => simp [intOf]; omega
      · have dz : decide (z < 0) = false := by simpa using hz0'
        rw [if_neg hz0'] at hst
        have HST := Lib.hid hst
        clear hst hz hb4
        go_wp2_with fail
        go_roundw
        case rel => exact ⟨k + 1, by omega, by go_num, by rw [HS2.out], by rw [HST.out], by first | rfl | trivial⟩
        case measure => simp [intOf]; omega
    · obtain rfl : k = L := by omega
      have ht : l.take k = l := by rw [HSL.out.2]; exact List.take_length
      rw [ht, ← HSL.out.1]
      clear ht
      by_cases hsn : s < n
      · have ds : (s : Int) < (n : Int) := by omega
        go_wp2_with fail
        exact bodyPost_ret (v := .tuple #[.slice none 0 0, .slice none 0 0, .int .i64 12]) (by simp [results, Try.results22, go_sem]) rfl ⟨H1.out.2, .inl ⟨hsn, rfl⟩⟩
      · have ds : ¬ (s : Int) < (n : Int) := by omega
        have hsn2 : n ≤ s := by omega
        have HT := HK.out hsn2
        cases hfi : fitI l n with
        | some i =>
          have hz : fitZ l n = (i : Int) := by unfold fitZ; rw [hfi]
          obtain ⟨e, he, -⟩ := fitI_some hfi
          have hiL := (List.getElem?_eq_some_iff.1 he).1
          rw [← HSL.out.2] at hiL
          have hte : (takeL l n).2 = [(e.1, n)] := by
            unfold takeL; rw [hfi]; simp [List.getD, he]
          have q : (zl l)[i]? = some ((e.1 : Int), (e.2 : Int)) := by rw [zl_get, he]; rfl
          obtain ⟨b, o, hao, hb, x1, x2⟩ := H1.out.1 i _ q
          subst hao
          rw [hz]
          have HTE := Lib.hid hte
          clear hfi hz he q x2 hte
          have HN3 := Lib.hid (Holds.new w1 #[.int .i64 e.1, .int .i64 n] 44)
          have HO3 := Lib.hid (World.ownsRow_nil (w1.alloc (Obj.cells #[.int .i64 e.1, .int .i64 n] 44)) w1.heap.size 44 2)
          have hone : ∀ u ∈ [Value.int .i64 (e.1 : Int), .int .i64 (n : Int)], u.oneCell' = true := by simp [Value.oneCell']
          go_wp2_with (at_builtin; refine wpList_append_own _ rfl _ _ 39 rfl w1.heap.size 44 i0 _ 2 16 Try.underlying39 hi0 hz0 hz1 hz2 rfl (by decide) _ _ _ rfl HO3.out ⟨w1.heap.size, 0, none⟩ 1 1 [.int .i64 e.1, .int .i64 n] rfl rfl (World.news_of_block HN3.out) hone (by unfold maxLen; omega) (by omega) (by rw [World.size_alloc]; omega) ?_)
          intro v4 w4 hown4 hgrow4 _
          have g4 : Gr [] w1 w4 := ((Gr.refl [] w1).alloc (Obj.cells #[.int .i64 e.1, .int .i64 n] 44)).next0 (gr_grown hgrow4)
          have H4 := Lib.hid (show w4.ownsRow w1.heap.size 44 2 v4 (takeL l n).2.length (cells2 (zl (takeL l n).2)) by rw [HTE.out]; exact hown4)
          clear hown4 hgrow4 HO3 HN3 x1 hone
          have hsl := own_sl2 H4.out
          obtain ⟨a2, c2, rfl⟩ := own_form H4.out
          have g5 := H1.out.2.next0 g4
          obtain ⟨t, ht⟩ : ∃ t, t = (takeL l n).2 := ⟨_, rfl⟩
          have HTA := Lib.hid HT.taken
          have HTT := Lib.hid ht
          have HTC := Lib.hid (show ∀ b, covB t b = true → m b = true from fun b hb => HC.out b (by rw [HT.cov b, ← ht, hb, Bool.or_true]))
          rw [← ht] at hsl HTA ⊢
          have htl : t.length ≤ 65536 := by
            have q1 := len_le HTA.out
            have q2 := sumL_le HTA.out
            omega
          obtain ⟨tl, htl2⟩ : ∃ tl, tl = t.length := ⟨_, rfl⟩
          rw [← htl2] at hsl htl ⊢
          have HTL := Lib.hid htl2
          have hcl2 : tl ≤ c2 := by
            have := own_lo H4.out _ _ rfl
            rw [← ht, ← htl2] at this
            exact this
          obtain ⟨a2', c2', hv2, hrd2, -⟩ := id hsl
          rw [zl_len, ← htl2] at hv2
          injection hv2 with q1 _ q3
          subst q1 q3
          have HZ := Lib.hid (And.intro hsl (And.intro g5 hrd2))
          clear H4 g4 g5 hsl hrd2 ht htl2 HT HTE
          generalize w4 = w6 at *
          go_wp2_with fail
          go_loopw [0, 15] (fun v i wr => ∃ (j : Nat) (ao : Option Addr) (cap : Nat), j ≤ tl ∧ i = .int .i64 j ∧ v = .slice ao N cap ∧ N ≤ cap ∧ RdM wr ao N (leftM m t j) ∧ Gr [] w6 wr) (fun _ i _ => tl - (intOf i).toNat)
          case atStart => exact ⟨0, ao, cap, by omega, rfl, rfl, hcap, (HS.out.gr0 HZ.out.2.1).congr (fun b _ => by simp [leftM, covB]), Gr.refl _ _⟩
          case round =>
            obtain ⟨j, ao3, cap3, hj, rfl, rfl, hcp3, hrd3, G3⟩ := hrel
            by_cases hjt : j < tl
            · obtain ⟨e, he⟩ : ∃ e, t[j]? = some e := ⟨_, List.getElem?_eq_getElem (by have := HTL.out; omega)⟩
              have qq : (zl t)[j]? = some ((e.1 : Int), (e.2 : Int)) := by rw [zl_get, he]; rfl
              obtain ⟨b, o, hao, hb, x1, x2⟩ := HZ.out.2.2 j _ qq
              subst hao
              have y1 : wr.cell? ⟨b, o + j * 2, none⟩ = some (.int .i64 (e.1 : Int)) := (G3.cell0 hb).trans x1
              have y2 : wr.cell? ⟨b, o + j * 2 + 1, none⟩ = some (.int .i64 (e.2 : Int)) := (G3.cell0 hb).trans x2
              have hme := runs_mem HTA.out (List.mem_of_getElem? he)
              have HCALL := Lib.hid (fun (W : World) (g : Gr [] wr W) => rset_yes N e.1 e.2 (leftM m t j) ao3 cap3 false W (hrd3.gr0 g) hN hcp3 hme.2.1 hme.2.2 (fun x hx => by
                have q1 := runs_apart HTA.out he hx
                have q2 : covB t x = true := by
                  rw [covB, List.any_eq_true]
                  exact ⟨e, List.mem_of_getElem? he, hx⟩
                unfold leftM
                rw [q1, HTC.out x q2]
                rfl))
              rw [leftM_step he] at HCALL
              have HG3 := Lib.hid G3
              have S0 : wr.cell? ⟨b, o + j * 2, none⟩ = some (.int .i64 (e.1 : Int)) ∧ wr.cell? ⟨b, o + j * 2 + 1, none⟩ = some (.int .i64 (e.2 : Int)) ∧ Gr [] wr wr := ⟨y1, y2, Gr.refl _ _⟩
              have S1 := kD3 S0
              clear x1 x2 qq he hme hrd3 G3
              go_wp2_with fail
              go_region_held3 (fun w' : World => w'.cell? ⟨b, o + j * 2, none⟩ = some (.int .i64 (e.1 : Int)) ∧ w'.cell? ⟨b, o + j * 2 + 1, none⟩ = some (.int .i64 (e.2 : Int)) ∧ Gr [] wr w') (with_reducible (first | assumption | exact kD3 (by assumption))) ((go_at_call 19; (with_reducible refine (HCALL.out _ (And.right (And.right (by assumption)))).mono ?_); rintro r w5 ⟨g, c, rfl, hR5, hc5, g5⟩; (with_reducible have s5 := kG3 (by assumption) g5); have s5a := s5.1; have s5b := s5.2.1; have H5 := Lib.hid (And.intro hR5 (And.intro hc5 s5.2.2)); clear hR5 hc5 g5))
              all_goals go_wp2_with fail
              all_goals go_roundw
              all_goals first | (exact ⟨j + 1, _, _, by omega, by go_num, rfl, H5.out.2.1, H5.out.1.gr0 (by repeat (with_reducible first | exact Gr.refl _ _ | refine Gr.drew ?_)), HG3.out.next0 (by repeat (with_reducible first | exact H5.out.2.2 | exact Gr.refl _ _ | refine Gr.drew ?_))⟩) | (simp [intOf]; omega)
            · obtain rfl : j = tl := by omega
              go_wp2_with fail
              exact bodyPost_ret (v := .tuple #[.slice ao3 N cap3, .slice a2 j c2, .int .i64 0]) (by simp [results, Try.results22, go_sem]) rfl ⟨HZ.out.2.1.next0 G3, .inr ⟨hsn2, ao3, cap3, a2, c2, by rw [← HTT.out, ← HTL.out], hcp3, by rw [← HTT.out, ← HTL.out]; exact hrd3, by rw [← HTT.out, ← HTL.out]; exact HZ.out.1.gr0 G3⟩⟩
        | none =>
          have hz : fitZ l n = -1 := by unfold fitZ; rw [hfi]
          have hte : (takeL l n).2 = takeP l n := by
            rw [takeP_greedy hn (by rw [← HSL.out.1]; exact hsn2)]
            unfold takeL; rw [hfi]
          have HTE := Lib.hid hte
          rw [hz]
          clear hfi hz hte
          go_wp2_with fail
          go_loopw [11, 12, 13] (fun v lf i wr => ∃ (q r : Nat) (T : List (Nat × Nat)), q ≤ k ∧ i = .int .i64 q ∧ lf = .int .i64 r ∧ r ≤ n ∧ T.length ≤ q ∧ Hid (T ++ takeP (l.drop q) r = takeP l n) ∧ wr.ownsRow w1.heap.size 44 2 v T.length (cells2 (zl T)) ∧ Gr [] w1 wr) (fun _ _ i _ => k - (intOf i).toNat)
          case atStart => exact ⟨0, n, [], by omega, rfl, rfl, Nat.le_refl _, Nat.le_refl _, Lib.hid rfl, World.ownsRow_nil _ _ _ _, Gr.refl _ _⟩
          case round =>
            obtain ⟨q, r, T, hq, rfl, rfl, hrn, hTl, hTT, ho, G⟩ := hrel
            have HQ := Lib.hid (And.intro ho G)
            have hszw := G.size
            clear ho G
            have hex : ∀ (_ : q = k ∨ r = 0), T = takeP l n := fun hh => by
              have := hTT.out
              rcases hh with h1 | h1
              · rw [h1, HSL.out.2, List.drop_length] at this
                simpa [takeP] using this
              · rw [h1, takeP_zero] at this
                simpa using this
            have HEX := Lib.hid hex
            clear hex
            by_cases hqk : q < k
            · by_cases hr0 : r = 0
              · have hT := HEX.out (.inr hr0)
                have H4 := Lib.hid (show wr.ownsRow w1.heap.size 44 2 u11 (takeL l n).2.length (cells2 (zl (takeL l n).2)) by rw [HTE.out, ← hT]; exact HQ.out.1)
                have g4 := HQ.out.2
                clear hT HEX hTT HQ
                subst hr0
                go_wp2_with fail
                have hsl := own_sl2 H4.out
                obtain ⟨a2, c2, rfl⟩ := own_form H4.out
                have g5 := H1.out.2.next0 g4
                obtain ⟨t, ht⟩ : ∃ t, t = (takeL l n).2 := ⟨_, rfl⟩
                have HTA := Lib.hid HT.taken
                have HTT := Lib.hid ht
                have HTC := Lib.hid (show ∀ b, covB t b = true → m b = true from fun b hb => HC.out b (by rw [HT.cov b, ← ht, hb, Bool.or_true]))
                rw [← ht] at hsl HTA ⊢
                have htl : t.length ≤ 65536 := by
                  have q1 := len_le HTA.out
                  have q2 := sumL_le HTA.out
                  omega
                obtain ⟨tl, htl2⟩ : ∃ tl, tl = t.length := ⟨_, rfl⟩
                rw [← htl2] at hsl htl ⊢
                have HTL := Lib.hid htl2
                have hcl2 : tl ≤ c2 := by
                  have := own_lo H4.out _ _ rfl
                  rw [← ht, ← htl2] at this
                  exact this
                obtain ⟨a2', c2', hv2, hrd2, -⟩ := id hsl
                rw [zl_len, ← htl2] at hv2
                injection hv2 with q1 _ q3
                subst q1 q3
                have HZ := Lib.hid (And.intro hsl (And.intro g5 hrd2))
                clear H4 g4 g5 hsl hrd2 ht htl2 HT HTE
                generalize wr = w6 at *
                go_wp2_with fail
                go_loopw [0, 15] (fun v i wr => ∃ (j : Nat) (ao : Option Addr) (cap : Nat), j ≤ tl ∧ i = .int .i64 j ∧ v = .slice ao N cap ∧ N ≤ cap ∧ RdM wr ao N (leftM m t j) ∧ Gr [] w6 wr) (fun _ i _ => tl - (intOf i).toNat)
                case atStart => exact ⟨0, ao, cap, by omega, rfl, rfl, hcap, (HS.out.gr0 HZ.out.2.1).congr (fun b _ => by simp [leftM, covB]), Gr.refl _ _⟩
                case round =>
                  obtain ⟨j, ao3, cap3, hj, rfl, rfl, hcp3, hrd3, G3⟩ := hrel
                  by_cases hjt : j < tl
                  · obtain ⟨e, he⟩ : ∃ e, t[j]? = some e := ⟨_, List.getElem?_eq_getElem (by have := HTL.out; omega)⟩
                    have qq : (zl t)[j]? = some ((e.1 : Int), (e.2 : Int)) := by rw [zl_get, he]; rfl
                    obtain ⟨b, o, hao, hb, x1, x2⟩ := HZ.out.2.2 j _ qq
                    subst hao
                    have y1 : wr.cell? ⟨b, o + j * 2, none⟩ = some (.int .i64 (e.1 : Int)) := (G3.cell0 hb).trans x1
                    have y2 : wr.cell? ⟨b, o + j * 2 + 1, none⟩ = some (.int .i64 (e.2 : Int)) := (G3.cell0 hb).trans x2
                    have hme := runs_mem HTA.out (List.mem_of_getElem? he)
                    have HCALL := Lib.hid (fun (W : World) (g : Gr [] wr W) => rset_yes N e.1 e.2 (leftM m t j) ao3 cap3 false W (hrd3.gr0 g) hN hcp3 hme.2.1 hme.2.2 (fun x hx => by
                      have q1 := runs_apart HTA.out he hx
                      have q2 : covB t x = true := by
                        rw [covB, List.any_eq_true]
                        exact ⟨e, List.mem_of_getElem? he, hx⟩
                      unfold leftM
                      rw [q1, HTC.out x q2]
                      rfl))
                    rw [leftM_step he] at HCALL
                    have HG3 := Lib.hid G3
                    have S0 : wr.cell? ⟨b, o + j * 2, none⟩ = some (.int .i64 (e.1 : Int)) ∧ wr.cell? ⟨b, o + j * 2 + 1, none⟩ = some (.int .i64 (e.2 : Int)) ∧ Gr [] wr wr := ⟨y1, y2, Gr.refl _ _⟩
                    have S1 := kD3 S0
                    clear x1 x2 qq he hme hrd3 G3
                    go_wp2_with fail
                    go_region_held3 (fun w' : World => w'.cell? ⟨b, o + j * 2, none⟩ = some (.int .i64 (e.1 : Int)) ∧ w'.cell? ⟨b, o + j * 2 + 1, none⟩ = some (.int .i64 (e.2 : Int)) ∧ Gr [] wr w') (with_reducible (first | assumption | exact kD3 (by assumption))) ((go_at_call 19; (with_reducible refine (HCALL.out _ (And.right (And.right (by assumption)))).mono ?_); rintro r w5 ⟨g, c, rfl, hR5, hc5, g5⟩; (with_reducible have s5 := kG3 (by assumption) g5); have s5a := s5.1; have s5b := s5.2.1; have H5 := Lib.hid (And.intro hR5 (And.intro hc5 s5.2.2)); clear hR5 hc5 g5))
                    all_goals go_wp2_with fail
                    all_goals go_roundw
                    all_goals first | (exact ⟨j + 1, _, _, by omega, by go_num, rfl, H5.out.2.1, H5.out.1.gr0 (by repeat (with_reducible first | exact Gr.refl _ _ | refine Gr.drew ?_)), HG3.out.next0 (by repeat (with_reducible first | exact H5.out.2.2 | exact Gr.refl _ _ | refine Gr.drew ?_))⟩) | (simp [intOf]; omega)
                  · obtain rfl : j = tl := by omega
                    go_wp2_with fail
                    exact bodyPost_ret (v := .tuple #[.slice ao3 N cap3, .slice a2 j c2, .int .i64 0]) (by simp [results, Try.results22, go_sem]) rfl ⟨HZ.out.2.1.next0 G3, .inr ⟨hsn2, ao3, cap3, a2, c2, by rw [← HTT.out, ← HTL.out], hcp3, by rw [← HTT.out, ← HTL.out]; exact hrd3, by rw [← HTT.out, ← HTL.out]; exact HZ.out.1.gr0 G3⟩⟩
              · have dr : decide ((0 : Int) < (r : Int)) = true := by simp; omega
                obtain ⟨e, he⟩ : ∃ e, l[q]? = some e := ⟨_, List.getElem?_eq_getElem (by have := HSL.out.2; omega)⟩
                have qq : (zl l)[q]? = some ((e.1 : Int), (e.2 : Int)) := by rw [zl_get, he]; rfl
                obtain ⟨b, o, hao, hb, x1, x2⟩ := H1.out.1 q _ qq
                subst hao
                have y1 : wr.cell? ⟨b, o + q * 2, none⟩ = some (.int .i64 (e.1 : Int)) := (HQ.out.2.cell0 hb).trans x1
                have y2 : wr.cell? ⟨b, o + q * 2 + 1, none⟩ = some (.int .i64 (e.2 : Int)) := (HQ.out.2.cell0 hb).trans x2
                have hta := takeP_at he hr0
                rw [hta] at hTT
                have HR0 := Lib.hid hr0
                have hr1 : 1 ≤ r := by omega
                clear x1 x2 he qq hta HEX hr0
                by_cases hc : r < e.2
                · have hci : (r : Int) < (e.2 : Int) := by omega
                  rw [Nat.min_eq_right (Nat.le_of_lt hc), Nat.sub_self] at hTT
                  have HN3 := Lib.hid (Holds.new wr #[.int .i64 e.1, .int .i64 r] 44)
                  have HO3 := Lib.hid (HQ.out.1.alloc (Obj.cells #[.int .i64 e.1, .int .i64 r] 44))
                  have hone : ∀ u ∈ [Value.int .i64 (e.1 : Int), .int .i64 (r : Int)], u.oneCell' = true := by simp [Value.oneCell']
                  go_wp2_with (at_builtin; refine wpList_append_own _ rfl _ _ 39 rfl w1.heap.size 44 i0 _ 2 16 Try.underlying39 hi0 hz0 hz1 hz2 rfl (by decide) _ _ _ rfl HO3.out ⟨wr.heap.size, 0, none⟩ 1 1 [.int .i64 e.1, .int .i64 r] rfl rfl (World.news_of_block HN3.out) hone (by unfold maxLen; omega) (by omega) (by rw [World.size_alloc]; omega) ?_)
                  intro v4 w4 hown4 hgrow4 _
                  have hlt4 := HO3.out.lt
                  have g4 : Gr [] w1 w4 := (HQ.out.2.alloc (Obj.cells #[.int .i64 e.1, .int .i64 r] 44)).nextN (gr_grown hgrow4) (fun x hx => .inr (hlt4 x (by simpa using hx)).1)
                  have H4 := Lib.hid (And.intro (show w4.ownsRow w1.heap.size 44 2 v4 (T ++ [(e.1, r)]).length (cells2 (zl (T ++ [(e.1, r)]))) by
                    rw [List.length_append, zl_append, cells2_append]; exact hown4) g4)
                  have HT2 := Lib.hid (show (T ++ [(e.1, r)]) ++ takeP (l.drop (q + 1)) 0 = takeP l n by rw [List.append_assoc]; exact hTT.out)
                  clear hown4 hgrow4 hlt4 g4 HO3 HN3 y1 y2 hone hTT HQ
                  go_wp2_with fail
                  go_roundw
                  case rel => exact ⟨q + 1, 0, T ++ [(e.1, r)], by omega, by go_num, by first | rfl | (congr 1; omega), by omega, by simp; omega, HT2, H4.out.1, H4.out.2⟩
                  case measure => simp [intOf]; omega
                · have hci : ¬ (r : Int) < (e.2 : Int) := by omega
                  rw [Nat.min_eq_left (by omega)] at hTT
                  have hcr : e.2 ≤ r := by omega
                  have HN3 := Lib.hid (Holds.new wr #[.int .i64 e.1, .int .i64 e.2] 44)
                  have HO3 := Lib.hid (HQ.out.1.alloc (Obj.cells #[.int .i64 e.1, .int .i64 e.2] 44))
                  have hone : ∀ u ∈ [Value.int .i64 (e.1 : Int), .int .i64 (e.2 : Int)], u.oneCell' = true := by simp [Value.oneCell']
                  go_wp2_with (at_builtin; refine wpList_append_own _ rfl _ _ 39 rfl w1.heap.size 44 i0 _ 2 16 Try.underlying39 hi0 hz0 hz1 hz2 rfl (by decide) _ _ _ rfl HO3.out ⟨wr.heap.size, 0, none⟩ 1 1 [.int .i64 e.1, .int .i64 e.2] rfl rfl (World.news_of_block HN3.out) hone (by unfold maxLen; omega) (by omega) (by rw [World.size_alloc]; omega) ?_)
                  intro v4 w4 hown4 hgrow4 _
                  have hlt4 := HO3.out.lt
                  have g4 : Gr [] w1 w4 := (HQ.out.2.alloc (Obj.cells #[.int .i64 e.1, .int .i64 e.2] 44)).nextN (gr_grown hgrow4) (fun x hx => .inr (hlt4 x (by simpa using hx)).1)
                  have H4 := Lib.hid (And.intro (show w4.ownsRow w1.heap.size 44 2 v4 (T ++ [(e.1, e.2)]).length (cells2 (zl (T ++ [(e.1, e.2)]))) by
                    rw [List.length_append, zl_append, cells2_append]; exact hown4) g4)
                  have HT2 := Lib.hid (show (T ++ [(e.1, e.2)]) ++ takeP (l.drop (q + 1)) (r - e.2) = takeP l n by rw [List.append_assoc]; exact hTT.out)
                  clear hown4 hgrow4 hlt4 g4 HO3 HN3 y1 y2 hone hTT HQ
                  go_wp2_with fail
                  go_roundw
                  case rel => exact ⟨q + 1, (r - e.2), T ++ [(e.1, e.2)], by omega, by go_num, by first | rfl | (congr 1; omega), by omega, by simp; omega, HT2, H4.out.1, H4.out.2⟩
                  case measure => simp [intOf]; omega
            · have hT := HEX.out (.inl (by omega))
              have H4 := Lib.hid (show wr.ownsRow w1.heap.size 44 2 u11 (takeL l n).2.length (cells2 (zl (takeL l n).2)) by rw [HTE.out, ← hT]; exact HQ.out.1)
              have g4 := HQ.out.2
              clear hT HEX hTT HQ
              go_wp2_with fail
              have hsl := own_sl2 H4.out
              obtain ⟨a2, c2, rfl⟩ := own_form H4.out
              have g5 := H1.out.2.next0 g4
              obtain ⟨t, ht⟩ : ∃ t, t = (takeL l n).2 := ⟨_, rfl⟩
              have HTA := Lib.hid HT.taken
              have HTT := Lib.hid ht
              have HTC := Lib.hid (show ∀ b, covB t b = true → m b = true from fun b hb => HC.out b (by rw [HT.cov b, ← ht, hb, Bool.or_true]))
              rw [← ht] at hsl HTA ⊢
              have htl : t.length ≤ 65536 := by
                have q1 := len_le HTA.out
                have q2 := sumL_le HTA.out
                omega
              obtain ⟨tl, htl2⟩ : ∃ tl, tl = t.length := ⟨_, rfl⟩
              rw [← htl2] at hsl htl ⊢
              have HTL := Lib.hid htl2
              have hcl2 : tl ≤ c2 := by
                have := own_lo H4.out _ _ rfl
                rw [← ht, ← htl2] at this
                exact this
              obtain ⟨a2', c2', hv2, hrd2, -⟩ := id hsl
              rw [zl_len, ← htl2] at hv2
              injection hv2 with q1 _ q3
              subst q1 q3
              have HZ := Lib.hid (And.intro hsl (And.intro g5 hrd2))
              clear H4 g4 g5 hsl hrd2 ht htl2 HT HTE
              generalize wr = w6 at *
              go_wp2_with fail
              go_loopw [0, 15] (fun v i wr => ∃ (j : Nat) (ao : Option Addr) (cap : Nat), j ≤ tl ∧ i = .int .i64 j ∧ v = .slice ao N cap ∧ N ≤ cap ∧ RdM wr ao N (leftM m t j) ∧ Gr [] w6 wr) (fun _ i _ => tl - (intOf i).toNat)
              case atStart => exact ⟨0, ao, cap, by omega, rfl, rfl, hcap, (HS.out.gr0 HZ.out.2.1).congr (fun b _ => by simp [leftM, covB]), Gr.refl _ _⟩
              case round =>
                obtain ⟨j, ao3, cap3, hj, rfl, rfl, hcp3, hrd3, G3⟩ := hrel
                by_cases hjt : j < tl
                · obtain ⟨e, he⟩ : ∃ e, t[j]? = some e := ⟨_, List.getElem?_eq_getElem (by have := HTL.out; omega)⟩
                  have qq : (zl t)[j]? = some ((e.1 : Int), (e.2 : Int)) := by rw [zl_get, he]; rfl
                  obtain ⟨b, o, hao, hb, x1, x2⟩ := HZ.out.2.2 j _ qq
                  subst hao
                  have y1 : wr.cell? ⟨b, o + j * 2, none⟩ = some (.int .i64 (e.1 : Int)) := (G3.cell0 hb).trans x1
                  have y2 : wr.cell? ⟨b, o + j * 2 + 1, none⟩ = some (.int .i64 (e.2 : Int)) := (G3.cell0 hb).trans x2
                  have hme := runs_mem HTA.out (List.mem_of_getElem? he)
                  have HCALL := Lib.hid (fun (W : World) (g : Gr [] wr W) => rset_yes N e.1 e.2 (leftM m t j) ao3 cap3 false W (hrd3.gr0 g) hN hcp3 hme.2.1 hme.2.2 (fun x hx => by
                    have q1 := runs_apart HTA.out he hx
                    have q2 : covB t x = true := by
                      rw [covB, List.any_eq_true]
                      exact ⟨e, List.mem_of_getElem? he, hx⟩
                    unfold leftM
                    rw [q1, HTC.out x q2]
                    rfl))
                  rw [leftM_step he] at HCALL
                  have HG3 := Lib.hid G3
                  have S0 : wr.cell? ⟨b, o + j * 2, none⟩ = some (.int .i64 (e.1 : Int)) ∧ wr.cell? ⟨b, o + j * 2 + 1, none⟩ = some (.int .i64 (e.2 : Int)) ∧ Gr [] wr wr := ⟨y1, y2, Gr.refl _ _⟩
                  have S1 := kD3 S0
                  clear x1 x2 qq he hme hrd3 G3
                  go_wp2_with fail
                  go_region_held3 (fun w' : World => w'.cell? ⟨b, o + j * 2, none⟩ = some (.int .i64 (e.1 : Int)) ∧ w'.cell? ⟨b, o + j * 2 + 1, none⟩ = some (.int .i64 (e.2 : Int)) ∧ Gr [] wr w') (with_reducible (first | assumption | exact kD3 (by assumption))) ((go_at_call 19; (with_reducible refine (HCALL.out _ (And.right (And.right (by assumption)))).mono ?_); rintro r w5 ⟨g, c, rfl, hR5, hc5, g5⟩; (with_reducible have s5 := kG3 (by assumption) g5); have s5a := s5.1; have s5b := s5.2.1; have H5 := Lib.hid (And.intro hR5 (And.intro hc5 s5.2.2)); clear hR5 hc5 g5))
                  all_goals go_wp2_with fail
                  all_goals go_roundw
                  all_goals first | (exact ⟨j + 1, _, _, by omega, by go_num, rfl, H5.out.2.1, H5.out.1.gr0 (by repeat (with_reducible first | exact Gr.refl _ _ | refine Gr.drew ?_)), HG3.out.next0 (by repeat (with_reducible first | exact H5.out.2.2 | exact Gr.refl _ _ | refine Gr.drew ?_))⟩) | (simp [intOf]; omega)
                · obtain rfl : j = tl := by omega
                  go_wp2_with fail
                  exact bodyPost_ret (v := .tuple #[.slice ao3 N cap3, .slice a2 j c2, .int .i64 0]) (by simp [results, Try.results22, go_sem]) rfl ⟨HZ.out.2.1.next0 G3, .inr ⟨hsn2, ao3, cap3, a2, c2, by rw [← HTT.out, ← HTL.out], hcp3, by rw [← HTT.out, ← HTL.out]; exact hrd3, by rw [← HTT.out, ← HTL.out]; exact HZ.out.1.gr0 G3⟩⟩

end Go.Proofs.Ytpkhfdcokcchdaa
