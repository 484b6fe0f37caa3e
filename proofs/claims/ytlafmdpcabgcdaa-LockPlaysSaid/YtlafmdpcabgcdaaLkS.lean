/-
  Layer 24: the document's Ask.
-/
import Derived.Test.YtlafmdpcabgcdaaLkR
import Derived.Shelf.RegionOpenPlain
namespace Go.Proofs.Ytlafmdpcabgcdaa
open Go.RowKit

/-- One more pair behind who wants. -/
theorem RlS.snocW {w1 w6 : World} {r : RlA} {C : Int} {hs ws : List (Int × Int)} {g6 n cp : Nat} {o : Obj} {c x : Int} (h : RlS w1 r C hs ws)
    (hown : w6.ownsRow (r.b + 1) 63 2 (.slice (some ⟨g6, 0, none⟩) n cp) n (pv ws ++ [.int .i64 c, .int .i64 x])) (hg : (w1.alloc o).drew.grownBy w6 r.vW.ownBlock) (hat : r.vW.ownBlock = some g6 ∨ g6 = (w1.alloc o).drew.heap.size) :
    RlS (w6.setCell ⟨r.b, 2, none⟩ (.slice (some ⟨g6, 0, none⟩) n cp)) ⟨r.b, r.vH, .slice (some ⟨g6, 0, none⟩) n cp⟩ C hs (ws ++ [(c, x)]) ∧ Gr r.all w1 (w6.setCell ⟨r.b, 2, none⟩ (.slice (some ⟨g6, 0, none⟩) n cp)) ∧ NwR w1 r ⟨r.b, r.vH, .slice (some ⟨g6, 0, none⟩) n cp⟩ := by
  have gG : Gr [] w1 (w1.alloc o).drew := ((Gr.refl [] w1).alloc o).drew
  have hz : (w1.alloc o).drew.heap.size = w1.heap.size + 1 := World.size_alloc _ _
  have gg := gr_grownL hg
  have hn : n = (ws ++ [(c, x)]).length := by
    have := hown.1; simp [pv_len] at this; simp; omega
  have e : pv ws ++ [.int .i64 c, .int .i64 x] = pv (ws ++ [(c, x)]) := (pv_snoc ws (c, x)).symm
  rw [e] at hown
  have hrb : r.b ∉ r.vW.ownBlock.toList := fun q => by
    have := (h.wants.lt r.b (by simpa using q)).1; omega
  have hH6 := (h.head.gr0 gG).gr gg hrb
  have hW6 := own_gr (own_gr0 h.has gG) gg (fun b hb q => h.ne b hb (by simpa using q))
  refine ⟨RlS.putW hH6 (by rw [← hn]; exact hown) hW6 (fun k q hk => ?_), ?_, fun b hb => ?_, rfl⟩
  · injection hk with hk
    simp only at hk
    subst hk
    rcases hat with p | p
    · exact h.ne _ q p
    · have := (h.has.lt _ q).2; omega
  · refine Gr.setCell ?_ (.inl (by simp [RlA.all])) _
    exact (gG.of0).trans (gg.mono fun b hb => by simp [RlA.all]; exact .inr (.inr (by simpa using hb)))
  · simp only [RlA.all, List.mem_cons, List.mem_append, Option.mem_toList] at hb ⊢
    rcases hb with q | q | q
    · exact .inl (.inl q)
    · exact .inl (.inr (.inl q))
    · injection q with q
      simp only at q
      subst q
      rcases hat with p | p
      · exact .inl (.inr (.inr p))
      · exact .inr (by omega)
section
variable {w : World} {r : RlA} {C : Int} {hs ws : List (Int × Int)}
theorem rask_out (c : Int) (v : Value) (h : RlS w r C hs ws) (hc : c < 0 ∨ C ≤ c) :
    Calls Try.prog 9 #[.pointer (some ⟨r.b, 0, none⟩), .int .i64 c, v] w fun e w' => e = .returned (.int .i64 2) ∧ w' = w := by
  have HB := rbad_at c h
  rw [decide_eq_true hc] at HB
  have HB := Lib.hid HB
  clear h hc
  go_enter Try.func9, Try.ntmps9
  go_wp2_with (go_at_call 23; refine HB.out.mono ?_; rintro e w' ⟨rfl, hw⟩; rw [hw])
  go_ret
  exact ⟨rfl, rfl⟩
theorem rask_held (c : Int) (v : Value) (h : RlS w r C hs ws) (hc : 0 ≤ c ∧ c < C) (hl : hs.length ≤ 1000) (hl2 : ws.length ≤ 1000) (x : Int) (l : List Int) (how : ofP ws c = x :: l) :
    Calls Try.prog 9 #[.pointer (some ⟨r.b, 0, none⟩), .int .i64 c, v] w fun e w' => e = .returned (.int .i64 8) ∧ Gr [] w w' := by
  have HB := rbad_at c h
  rw [decide_eq_false (by omega)] at HB
  have HB := Lib.hid HB
  have HH := Lib.hid (had_at c h hl)
  have H := Lib.hid h
  clear h hc
  go_enter Try.func9, Try.ntmps9
  go_wp2_with (go_at_call 23; refine HB.out.mono ?_; rintro e w' ⟨rfl, hw⟩; rw [hw])
  go_at_call 16
  refine HH.out.mono ?_
  rintro e w1 ⟨v1, rfl, -, g1, -⟩
  have HG := Lib.hid g1
  have HW := wanted_at c (H.out.gr0 g1) hl2
  rw [how] at HW
  have HW := Lib.hid HW
  clear how g1
  go_wp2_with fail
  go_at_call 24
  refine HW.out.mono ?_
  rintro e w2 ⟨v2, rfl, hv, hg, -⟩
  have HG2 := Lib.hid hg
  obtain ⟨k, o, cap, rfl, hk, ck, hc1, hc2⟩ := hv.first
  obtain ⟨L, hL⟩ : ∃ L, L = l.length + 1 := ⟨_, rfl⟩
  rw [← hL]
  have i1 : (0 : Int) < (L : Int) := by omega
  have i3 : 0 < L := by omega
  clear hv hg hk hL hc1 hc2
  go_wp2_with fail
  go_ret
  exact ⟨rfl, HG.out.next0 HG2.out⟩
/-- What Ask answers where nothing is wanted yet. -/
def AskR (w : World) (r : RlA) (C : Int) (hs ws : List (Int × Int)) (c : Int) (xs : List Int) (e : Ending) (w' : World) : Prop :=
  (¬ mayAsk (ofP hs c) xs ∧ e = .returned (.int .i64 8) ∧ Gr [] w w') ∨ (mayAsk (ofP hs c) xs ∧ ∃ r', e = .returned (.int .i64 0) ∧ RlS w' r' C hs (ws ++ xs.map fun x => (c, x)) ∧ Gr r.all w w' ∧ NwR w r r')
set_option maxRecDepth 100000 in
set_option maxHeartbeats 8000000 in
theorem rask_at (c : Int) (v : Value) (xs : List Int) (h : RlS w r C hs ws) (hc : 0 ≤ c ∧ c < C) (hl : hs.length ≤ 1000) (hl2 : ws.length + xs.length ≤ 1000) (how : ofP ws c = []) (hv : SlZ w v xs) (hva : xs ≠ [] → ∀ k, v.ownBlock = some k → k ∉ r.all) :
    Calls Try.prog 9 #[.pointer (some ⟨r.b, 0, none⟩), .int .i64 c, v] w (AskR w r C hs ws c xs) := by
  obtain ⟨i0, hi, hz0, hz1, hz2⟩ := info_parts infoPair
  have mixed : Try.prog.follows .mixedOrders = true := by kernel_rfl
  have HB := rbad_at c h
  rw [decide_eq_false (by omega)] at HB
  have HB := Lib.hid HB
  have HH := Lib.hid (had_at c h hl)
  have H := Lib.hid h
  obtain ⟨ao, cap, rfl, hrd, -, -, -⟩ := hv
  have HRD := Lib.hid (And.intro hrd (show ∀ (i : Nat) (x : Int), xs[i]? = some x → ∀ k o, ao = some ⟨k, o, none⟩ → k ∉ r.all from fun i x hi k o e => hva (fun q => by rw [q] at hi; simp at hi) k (by rw [e]; rfl)))
  obtain ⟨N, hN⟩ : ∃ N, N = xs.length := ⟨_, rfl⟩
  rw [← hN] at hl2 ⊢
  have HN := Lib.hid hN
  have HOF := Lib.hid (ofP_len hs c)
  obtain ⟨A, hA⟩ : ∃ A, A = ofP hs c := ⟨_, rfl⟩
  rw [← hA] at HH HOF
  have HA := Lib.hid hA
  clear h hc hrd hva hN hA
  go_enter Try.func9, Try.ntmps9
  go_wp2_with (go_at_call 23; refine HB.out.mono ?_; rintro e w' ⟨rfl, hw⟩; rw [hw])
  go_at_call 16
  refine HH.out.mono ?_
  rintro e w1 ⟨v1, rfl, hv1, g1, -⟩
  have HW := wanted_at c (H.out.gr0 g1) (by omega)
  rw [how] at HW
  have HW := Lib.hid HW
  obtain ⟨ao1, cap1, rfl, hrd1, -, -, -⟩ := hv1
  have HR1 := Lib.hid hrd1
  have HG1 := Lib.hid g1
  clear hrd1 g1 how
  obtain ⟨M, hM⟩ : ∃ M, M = A.length := ⟨_, rfl⟩
  rw [← hM]
  have hM9 : M ≤ 1000 := by have := HOF.out; omega
  have HM := Lib.hid hM
  clear hM
  go_wp2_with fail
  go_at_call 24
  refine HW.out.mono ?_
  rintro e w2 ⟨v2, rfl, ⟨ao2, cap2, hv2, -⟩, g2, -⟩
  obtain rfl : v2 = .slice ao2 0 cap2 := hv2
  have HG2 := Lib.hid g2
  clear g2
  go_wp2_with fail
  go_loopw [10] (fun i wr => ∃ k : Nat, k ≤ N ∧ i = .int .i64 k ∧ Gr [] w2 wr ∧ ∀ j x, j < k → xs[j]? = some x → ∀ y ∈ A, y < x) (fun i _ => N - (intOf i).toNat)
  case atStart => exact ⟨0, by omega, rfl, Gr.refl _ _, fun j x hj => absurd hj (by omega)⟩
  case round =>
    obtain ⟨k, hk, rfl, g, hall⟩ := hrel
    have HALL := Lib.hid hall
    have HG3 := Lib.hid g
    clear hall g
    by_cases hlt : k < N
    · have ik : (k : Int) < (N : Int) := by omega
      obtain ⟨x, hx⟩ : ∃ x, xs[k]? = some x := ⟨_, List.getElem?_eq_getElem (by have := HN.out; omega)⟩
      have HX := Lib.hid hx
      obtain ⟨b1, o1, rfl, hb1, z1⟩ := HRD.out.1 k x hx
      have HZ1 := Lib.hid (And.intro hb1 z1)
      clear hx hb1 z1
      obtain ⟨W0, rfl⟩ : ∃ W0, W0 = wr := ⟨_, rfl⟩
      go_wp2_with fail
      go_loopw [11] (fun j wi => ∃ q : Nat, q ≤ M ∧ j = .int .i64 q ∧ Gr [] W0 wi ∧ ∀ p y, p < q → A[p]? = some y → y < x) (fun j _ => M - (intOf j).toNat)
      case atStart => exact ⟨0, by omega, rfl, Gr.refl _ _, fun p y hp => absurd hp (by omega)⟩
      case round =>
        obtain ⟨q, hq, rfl, gi, hin⟩ := hrel
        have HIN := Lib.hid hin
        have HGI := Lib.hid gi
        clear hin
        by_cases hqm : q < M
        · have iq : (q : Int) < (M : Int) := by omega
          obtain ⟨y, hy⟩ : ∃ y, A[q]? = some y := ⟨_, List.getElem?_eq_getElem (by have := HM.out; omega)⟩
          have HY := Lib.hid hy
          obtain ⟨b2, o2, rfl, hb2, z2⟩ := HR1.out q y hy
          have c2 : wr.cell? ⟨b2, o2 + q, none⟩ = some (.int .i64 y) := ((HG2.out.next0 (HG3.out.next0 gi)).cell0 hb2).trans z2
          have c1 : wr.cell? ⟨b1, o1 + k, none⟩ = some (.int .i64 x) := ((HG1.out.next0 (HG2.out.next0 (HG3.out.next0 gi))).cell0 HZ1.out.1).trans HZ1.out.2
          clear hy hb2 z2 gi
          by_cases hge : x ≤ y
          · have f1 : decide (x ≤ y) = true := decide_eq_true hge
            have HF := Lib.hid (show ¬ mayAsk (ofP hs c) xs from fun hm => by
              have := hm x (List.mem_of_getElem? HX.out) y (by rw [← HA.out]; exact List.mem_of_getElem? HY.out)
              omega)
            clear hge
            go_wp2_with fail
            go_region_o
            go_wp2_with fail
            go_ret
            exact .inl ⟨HF.out, rfl, (HG1.out.next0 (HG2.out.next0 (HG3.out.next0 HGI.out))).drew⟩
          · have f1 : decide (x ≤ y) = false := decide_eq_false hge
            have HF := Lib.hid hge
            clear hge
            go_wp2_with fail
            go_region_o
            go_wp2_with fail
            go_roundw
            case rel => exact ⟨q + 1, by omega, by go_num, HGI.out.drew, fun p z hp hz => by
              by_cases e : p = q
              · subst e; rw [HY.out] at hz; injection hz with hz; subst hz; have := HF.out; omega
              · exact HIN.out p z (by omega) hz⟩
            case measure => simp [intOf]; omega
        · obtain rfl : q = M := by omega
          have iq : ¬ ((q : Int) < (q : Int)) := by omega
          clear gi
          go_wp2_with fail
          go_roundw
          case rel => exact ⟨k + 1, by omega, by go_num, HG3.out.next0 HGI.out, fun j z hj hz y hy => by
            by_cases e : j = k
            · subst e
              rw [HX.out] at hz
              injection hz with hz
              subst hz
              obtain ⟨p, hp⟩ := List.getElem?_of_mem hy
              exact HIN.out p y (by have := (List.getElem?_eq_some_iff.1 hp).1; have := HM.out; omega) hp
            · exact HALL.out j z (by omega) hz y hy⟩
          case measure => simp [intOf]; omega
    · obtain rfl : k = N := by omega
      have ik : ¬ ((k : Int) < (k : Int)) := by omega
      have HMAY := Lib.hid (show mayAsk (ofP hs c) xs from fun x hx y hy => by
        obtain ⟨p, hp⟩ := List.getElem?_of_mem hx
        exact HALL.out p x (by have := (List.getElem?_eq_some_iff.1 hp).1; have := HN.out; omega) hp y (by rw [HA.out]; exact hy))
      have HS0 := Lib.hid (H.out.gr0 (HG1.out.next0 (HG2.out.next0 HG3.out)))
      have HG0 := Lib.hid (HG1.out.next0 (HG2.out.next0 HG3.out))
      clear HALL HG3 HG2
      go_wp2_with fail
      go_loopw [12] (fun i wl => ∃ (k2 : Nat) (V : Value), k2 ≤ k ∧ i = .int .i64 k2 ∧ RlS wl ⟨r.b, r.vH, V⟩ C hs (ws ++ (xs.take k2).map fun x => (c, x)) ∧ Gr r.all w wl ∧ NwR w r ⟨r.b, r.vH, V⟩) (fun i _ => k - (intOf i).toNat)
      case atStart => exact ⟨0, r.vW, by omega, rfl, by simpa using HS0.out, HG0.out.of0, NwR.refl _ _⟩
      case round =>
        obtain ⟨q, V, hq, rfl, hR, g, hnw⟩ := hrel
        have HR := Lib.hid hR
        have HGN := Lib.hid (And.intro g hnw)
        clear hnw
        by_cases hqk : q < k
        · have iq : (q : Int) < (k : Int) := by omega
          obtain ⟨x, hx⟩ : ∃ x, xs[q]? = some x := ⟨_, List.getElem?_eq_getElem (by have := HN.out; omega)⟩
          obtain ⟨b1, o1, rfl, hb1, z1⟩ := HRD.out.1 q x hx
          have c1 : wr.cell? ⟨b1, o1 + q, none⟩ = some (.int .i64 x) := (World.cell?_of_block (w := w) (a := ⟨b1, o1 + q, none⟩) (g.block b1 hb1 (HRD.out.2 q x hx b1 o1 rfl))).trans z1
          have HTK := Lib.hid (show (ws ++ (xs.take q).map fun x => (c, x)) ++ [(c, x)] = ws ++ (xs.take (q + 1)).map fun x => (c, x) by
            obtain ⟨h1, h2⟩ := List.getElem?_eq_some_iff.1 hx
            rw [List.take_succ_eq_append_getElem h1, h2, List.map_append, List.append_assoc]; rfl)
          have hlen : (ws ++ (xs.take q).map fun x => (c, x)).length ≤ ws.length + q := by simp; omega
          obtain ⟨O, hO⟩ : ∃ O, O = ws ++ (xs.take q).map fun x => (c, x) := ⟨_, rfl⟩
          rw [← hO] at HR HTK hlen
          clear hx hb1 z1 g hR hO
          obtain ⟨aoH, capH, aoW, capW, -, e2, -⟩ := HR.out.to
          simp only at e2
          subst e2
          obtain ⟨L, hL⟩ : ∃ L, L = O.length := ⟨_, rfl⟩
          rw [← hL] at HR hlen HGN
          have HOW := Lib.hid HR.out.wants
          simp only at HOW
          rw [← hL] at HOW
          clear hL
          have d2 : wr.cell? ⟨r.b, 2, none⟩ = some (.slice aoW L capW) := HR.out.head.cell 2
          have d2a : ((wr.alloc (Obj.cells #[.int .i64 c, .int .i64 x] 63)).drew).cell? ⟨r.b, 2, none⟩ = some (.slice aoW L capW) := (HR.out.head.gr0 ((Gr.refl [] wr).alloc (Obj.cells #[.int .i64 c, .int .i64 x] 63))).cell 2
          have HBS := Lib.hid (show r.b + 1 ≤ ((wr.alloc (Obj.cells #[.int .i64 c, .int .i64 x] 63)).drew).heap.size from Nat.le_trans (Nat.succ_le_of_lt HR.out.head.lt) (by show wr.heap.size ≤ (wr.alloc _).heap.size; rw [World.size_alloc]; omega))
          go_wp2_with fail
          go_region_law ((have hT3 := HOW.out.alloc (Obj.cells #[.int .i64 c, .int .i64 x] 63); have hn3 := World.news_of_block (Holds.new wr #[.int .i64 c, .int .i64 x] 63); refine step_append_lies _ rfl _ _ 28 rfl (r.b + 1) 63 i0 _ 2 16 Try.underlying28 hi hz0 hz1 hz2 rfl (by decide) (.slice aoW L capW) L (pv O) rfl hT3 ⟨wr.heap.size, 0, none⟩ 1 1 [.int .i64 c, .int .i64 x] rfl rfl hn3 (one_pair (c, x)) Nat.one_pos (by unfold maxLen; omega) (by omega) HBS.out _ rfl ?_; intro g6 cp6 w6 hown6 hgrow6 hat6 hlt6; have gG := ((Gr.refl [] wr).alloc (Obj.cells #[.int .i64 c, .int .i64 x] 63)).drew; have hd6 := ((HR.out.head.gr0 gG).gr (gr_grownL hgrow6) (fun q => by have := (HR.out.wants.lt r.b (by simpa using q)).1; simp only at this; omega)); have s6a : w6.cell? ⟨r.b, 2, none⟩ = some (.slice aoW L capW) := hd6.cell 2; have s6f := hd6.frozen 2; have HR6 := Lib.hid (HR.out.snocW hown6 hgrow6 hat6); clear hown6 hgrow6 hat6 hlt6 hd6 hT3 hn3 gG))
          all_goals
            go_wp2_with fail
            go_roundw
            case rel => exact ⟨q + 1, .slice (some ⟨g6, 0, none⟩) (L + 1) cp6, by omega, by go_num, by rw [← HTK.out]; exact HR6.out.1, HGN.out.1.nextN HR6.out.2.1 (fun b hb => HGN.out.2.1 b hb), fun b hb => by
              rcases HR6.out.2.2.1 b hb with p | p
              · exact HGN.out.2.1 b p
              · exact .inr (Nat.le_trans HGN.out.1.size p), rfl⟩
            case measure => simp [intOf]; omega
        · obtain rfl : q = k := by omega
          have iq : ¬ ((q : Int) < (q : Int)) := by omega
          have HT := Lib.hid (show xs.take q = xs by rw [HN.out, List.take_length])
          clear g hR
          go_wp2_with fail
          go_ret
          exact .inr ⟨HMAY.out, _, rfl, by have := HR.out; rw [HT.out] at this; exact this, HGN.out.1, HGN.out.2⟩
end
end Go.Proofs.Ytlafmdpcabgcdaa
