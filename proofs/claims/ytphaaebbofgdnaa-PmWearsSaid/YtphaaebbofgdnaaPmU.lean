/-
  PmWears, the walk.
-/
import Derived.Test.YtphaaebbofgdnaaPmV
import Derived.Test.YtphaaebbofgdnaaFrameS
import Derived.Deep.QuietTactic
import Derived.BigQuiet
namespace Go.Proofs.Ytphaaebbofgdnaa
open Go.RowKit

theorem calls_flipC {P : Program} {f : FuncId} {args : Array Value} {w : World} {v : Value} (h : Calls P f args w fun e w' => e = .returned v ∧ w = w') : Calls P f args w fun e w' => e = .returned v ∧ w' = w := h.mono fun _ _ q => ⟨q.1, q.2.symm⟩

set_option maxRecDepth 100000 in
set_option maxHeartbeats 8000000 in
theorem wears_some (b off cap : Nat) (xs : List Int) (w : World) (hx : ∀ x ∈ xs, 0 ≤ x ∧ x ≤ 255) (hpos : 0 < xs.length) (hcap : xs.length ≤ cap) (hmax : cap ≤ maxLen) (hlt : b < w.heap.size) (hcell : ∀ i x, xs[i]? = some x → w.cell? ⟨b, off + i, none⟩ = some (.int .u8 x)) :
    Calls Try.prog 6 #[.slice (some ⟨b, off, none⟩) xs.length cap] w fun e w' => e = .returned (.bool true) ∧ Gr [] w w' := by
  obtain ⟨M, hM⟩ : ∃ M, M = min xs.length 80 := ⟨_, rfl⟩
  have hmn := minIsP Try.prog xs.length M 80 80 rfl hM
  have hM1 : M ≤ xs.length := by omega
  have hM2 : M ≤ 80 := by omega
  have HX := Lib.hid hx
  have HC := Lib.hid hcell
  unfold maxLen at hmax
  clear hx hcell hM
  obtain ⟨L, hL⟩ : ∃ L, xs.length = L := ⟨_, rfl⟩
  rw [hL] at hmn hpos hcap hM1 ⊢
  have HL := Lib.hid hL
  clear hL
  go_enter Try.func6, Try.ntmps6
  go_wp2_with fail
  refine (pmnew_yes 3 _ (by omega) (by omega)).mono ?_
  rintro e w1 ⟨a, rfl, d1, hlo, g1⟩
  have HLO := Lib.hid hlo
  clear hlo
  go_wp2_with fail
  refine (wakes03 _).mono ?_
  rintro e w2 ⟨rfl, q2⟩
  have d2 := d1.gr0 q2
  have g2 := g1.next0 q2
  clear d1 g1 q2
  go_wp2_with fail
  have hz := g2.size
  have hal := d2.lt
  have W0 : WzIs w2 a (fun _ => 0) (fun _ => 0) 0 := ⟨_, _, _, _, d2, (fun z _ => .inl ⟨rfl, rfl⟩), (fun _ _ => rfl), (fun l => ⟨Int.le_refl _, Int.le_refl _⟩), Nat.le_refl _⟩
  have q0 : Gr [] w2 ((w2.alloc (.cells (wantR fun _ => 0) 56)).alloc (.cells (wordR fun _ => 0) 57)) := ((Gr.refl [] w2).alloc _).alloc _
  have WE : Wea w ((w2.alloc (.cells (wantR fun _ => 0) 56)).alloc (.cells (wordR fun _ => 0) 57)) a w2.heap.size (w2.heap.size + 1) (fun _ => 0) (fun _ => 0) (fun _ => 0) (fun _ => 0) 0 :=
    ⟨W0.gr q0 (by simp), (Holds.new w2 _ _).alloc _, (by have := Holds.new (w2.alloc (.cells (wantR fun _ => 0) 56)) (wordR fun _ => 0) 57; rw [World.size_alloc] at this; exact this), g2.next0 q0, ⟨hz, by omega, by omega⟩, (fun e => by have := hal _ e; omega), (fun e => by have := hal _ e; omega), HLO.out⟩
  have eT : wantR (fun _ => 0) = #[Value.int .i64 0, Value.int .i64 0, Value.int .i64 0] := by kernel_rfl
  have eW : wordR (fun _ => 0) = #[Value.int .u8 0, Value.int .u8 0, Value.int .u8 0, Value.int .u8 0, Value.int .u8 0, Value.int .u8 0, Value.int .u8 0, Value.int .u8 0, Value.int .u8 0, Value.int .u8 0, Value.int .u8 0, Value.int .u8 0, Value.int .u8 0, Value.int .u8 0, Value.int .u8 0, Value.int .u8 0, Value.int .u8 0, Value.int .u8 0, Value.int .u8 0, Value.int .u8 0, Value.int .u8 0, Value.int .u8 0, Value.int .u8 0, Value.int .u8 0] := by kernel_rfl
  rw [eT, eW] at WE
  clear eT eW q0 W0 hal hz d2 g2
  generalize (w2.alloc (Obj.cells #[Value.int .i64 0, Value.int .i64 0, Value.int .i64 0] 56)).alloc (Obj.cells #[Value.int .u8 0, Value.int .u8 0, Value.int .u8 0, Value.int .u8 0, Value.int .u8 0, Value.int .u8 0, Value.int .u8 0, Value.int .u8 0, Value.int .u8 0, Value.int .u8 0, Value.int .u8 0, Value.int .u8 0, Value.int .u8 0, Value.int .u8 0, Value.int .u8 0, Value.int .u8 0, Value.int .u8 0, Value.int .u8 0, Value.int .u8 0, Value.int .u8 0, Value.int .u8 0, Value.int .u8 0, Value.int .u8 0, Value.int .u8 0] 57) = wa at *
  obtain ⟨bw, hbw⟩ : ∃ bw, w2.heap.size + 1 = bw := ⟨_, rfl⟩
  simp only [hbw] at *
  clear hbw
  generalize w2.heap.size = bt at *
  have HWE := Lib.hid WE
  clear WE
  go_loopw [34] (fun i wr => ∃ (k c : Nat) (g : Nat → Nat) (t : Nat → Int), k ≤ M ∧ c ≤ k ∧ i = .int .i64 k ∧ Wea w wr a bt bw g g t t c) (fun i _ => M - (intOf i).toNat)
  case atStart => exact ⟨0, 0, _, _, by omega, by omega, rfl, HWE.out⟩
  case round =>
    clear HWE
    obtain ⟨k, c, g, t, hk, hc, rfl, WE⟩ := hrel
    by_cases hkM : k < M
    · obtain ⟨x, hxk⟩ : ∃ x, xs[k]? = some x := ⟨_, List.getElem?_eq_getElem (by have := HL.out; omega)⟩
      have hxb := HX.out x (List.mem_of_getElem? hxk)
      have hcl : wr.cell? ⟨b, off + k, none⟩ = some (.int .u8 x) := by rw [WE.gr.cell0 hlt]; exact HC.out k x hxk
      obtain ⟨q, rfl⟩ := Int.eq_ofNat_of_zero_le hxb.1
      have hq : q < 256 := by omega
      clear hxk hxb
      obtain ⟨z, hz1, hz2⟩ : ∃ z : Nat, (q : Int) % 24 = (z : Int) ∧ z < 24 := ⟨q % 24, by omega, by omega⟩
      obtain ⟨s, hs1, hs2⟩ : ∃ s : Nat, (q : Int) / 24 % 6 = (s : Int) ∧ s < 6 := ⟨q / 24 % 6, by omega, by omega⟩
      have HWE := Lib.hid WE
      clear WE
      rcases (show s ≤ 2 ∨ (s = 3 ∨ s = 4) ∨ s = 5 by omega) with h3 | h34 | h5
      · rcases (show s = 0 ∨ s = 1 ∨ s = 2 by omega) with rfl | rfl | rfl
        all_goals
          have HS := Lib.hid (wz_store (a := a) (w := wr) (g := g) (t := t) (c := c) z q hz2 (by omega) (by omega) HWE.out.dev)
          clear hz2 h3 hs2
          go_wp2_with fail
          refine HS.out.mono ?_
          rintro e w3 ⟨rfl, d3, q3⟩
          have W3 := HWE.out.call d3 q3
          obtain ⟨cw, fw⟩ := W3.cw z (by omega)
          have HW3 := Lib.hid (W3.setW z 1)
          clear W3 d3 q3 HS HWE
          go_wp2_with fail
          go_roundw
          case rel => exact ⟨k + 1, c + 1, _, t, by omega, by omega, by go_num, HW3.out⟩
          case measure => simp [intOf]; omega
      · obtain ⟨l, hl1, hl2⟩ : ∃ l : Nat, (z : Int) / 8 = (l : Int) ∧ l < 3 := ⟨z / 8, by omega, by omega⟩
        rcases h34 with rfl | rfl
        all_goals
          have HS := Lib.hid (wz_flush (a := a) (w := wr) (g := g) (t := t) (c := c) l hl2 (by omega) HWE.out.dev)
          clear hs2
          go_wp2_with fail
          refine HS.out.mono ?_
          rintro e w3 ⟨rfl, d3, q3⟩
          have HW3 := Lib.hid (HWE.out.call d3 q3)
          have H2 := Lib.hid (fun j hj => HWE.out.dev.two j hj)
          clear d3 q3 HS HWE hcl
          go_wp2_with fail
          go_loopw [10] (fun i wr => ∃ m : Nat, 8 * l ≤ m ∧ m ≤ 8 * l + 8 ∧ i = .int .i64 m ∧ Wea w wr a bt bw (fun j => if j / 8 = l then min (2 * g j) 2 else g j) (flG g l m) t t (c + 1)) (fun i _ => 8 * l + 8 - (intOf i).toNat)
          case atStart => exact ⟨8 * l, by omega, by omega, by go_num, HW3.out.congr (fun j _ => flG_zero g l j) fun _ _ => rfl⟩
          case round =>
            clear HW3
            obtain ⟨m, hm1, hm2, rfl, WE⟩ := hrel
            by_cases hm : m < 8 * l + 8
            · have hd : decide ((m : Int) < (l : Int) * 8 + 8) = true := by simp; omega
              obtain ⟨cw, fw⟩ := WE.cw m (by omega)
              rw [flG_at] at cw
              rcases H2.out m (by omega) with h0 | h0 | h0
              all_goals
                rw [h0] at cw
                have HWN := Lib.hid (((WE.setW m (2 * g m)).setW m (min (2 * g m) 2)).congr (fun j _ => flG_next g l m _ _ hm1 hm rfl j) fun _ _ => rfl)
                rw [h0] at HWN
                clear WE h0
                go_wp2_with fail
                go_roundw
                case rel => exact ⟨m + 1, by omega, by omega, by go_num, HWN.out⟩
                case measure => simp [intOf]; omega
            · have hd : decide ((m : Int) < (l : Int) * 8 + 8) = false := by simp; omega
              obtain rfl : m = 8 * l + 8 := by omega
              have HWN := Lib.hid (WE.congr (fun j _ => flG_all g l j) fun _ _ => rfl)
              clear WE
              go_wp2_with fail
              go_roundw
              case rel => exact ⟨k + 1, c + 1, _, t, by omega, by omega, by go_num, HWN.out⟩
              case measure => simp [intOf]; omega
      · subst h5
        have HS := Lib.hid (wz_fenceT (a := a) (w := wr) (g := g) (t := t) (c := c) (by omega) HWE.out.dev)
        clear hs2
        go_wp2_with fail
        refine HS.out.mono ?_
        rintro e w3 ⟨rfl, d3, q3⟩
        have HW3 := Lib.hid (HWE.out.call d3 q3)
        have H2 := Lib.hid (fun j hj => HWE.out.dev.two j hj)
        have HT := Lib.hid (fun l hl => HWE.out.dev.worn l hl)
        clear d3 q3 HS HWE hcl
        go_wp2_with fail
        go_loopw [46] (fun i wr => ∃ l : Nat, l ≤ 3 ∧ i = .int .i64 l ∧ Wea w wr a bt bw (fun j => if g j = 2 then 0 else g j) (feG g (8 * l)) (fenT g t) (upT t (fenT g t) l) (c + 1)) (fun i _ => 3 - (intOf i).toNat)
        case atStart => exact ⟨0, by omega, rfl, HW3.out.congr (fun j _ => feG_zero g j) fun i _ => by unfold upT; rw [if_neg (by omega)]⟩
        case round =>
          clear HW3
          obtain ⟨l, hl, rfl, WE⟩ := hrel
          by_cases hl3 : l < 3
          · have hd3 : decide ((l : Int) < 3) = true := by simp; omega
            have HWE := Lib.hid WE
            clear WE
            go_wp2_with fail
            go_loopw [12, 13] (fun u i wr => ∃ (m : Nat) (sm : Bool), 8 * l ≤ m ∧ m ≤ 8 * l + 8 ∧ u = .bool sm ∧ i = .int .i64 m ∧ (sm = true ↔ ∃ j, 8 * l + j < m ∧ g (8 * l + j) = 2) ∧ Wea w wr a bt bw (fun j => if g j = 2 then 0 else g j) (feG g m) (fenT g t) (upT t (fenT g t) l) (c + 1)) (fun _ i _ => 8 * l + 8 - (intOf i).toNat)
            case atStart => exact ⟨8 * l, false, by omega, by omega, rfl, by go_num, ⟨(fun e => by cases e), fun ⟨j, h, _⟩ => by omega⟩, HWE.out⟩
            case round =>
              clear HWE
              obtain ⟨m, sm, hm1, hm2, rfl, rfl, hsm, WE⟩ := hrel
              have HSM := Lib.hid hsm
              clear hsm
              by_cases hm : m < 8 * l + 8
              · have hd : decide ((m : Int) < 8 * (l : Int) + 8) = true := by simp; omega
                obtain ⟨cw, fw⟩ := WE.cw m (by omega)
                rw [feG_at] at cw
                by_cases h2 : g m = 2
                · rw [h2] at cw
                  have HWN := Lib.hid ((WE.setW m 0).congr (fun j _ => feG_next g m h2 j) fun _ _ => rfl)
                  have HS2 := Lib.hid (show (true = true ↔ ∃ j, 8 * l + j < m + 1 ∧ g (8 * l + j) = 2) from ⟨fun _ => ⟨m - 8 * l, by omega, by rw [show 8 * l + (m - 8 * l) = m by omega]; exact h2⟩, fun _ => rfl⟩)
                  clear WE h2 HSM
                  go_wp2_with fail
                  go_roundw
                  case rel => exact ⟨m + 1, true, by omega, by omega, rfl, by go_num, HS2.out, HWN.out⟩
                  case measure => simp [intOf]; omega
                · have hne : ((g m : Nat) : Int) = 0 ∨ ((g m : Nat) : Int) = 1 := by rcases H2.out m (by omega) with h0 | h0 | h0 <;> omega
                  have HWN := Lib.hid (WE.congr (fun j _ => feG_skip g m h2 j) fun _ _ => rfl)
                  have HS2 := Lib.hid (show (sm = true ↔ ∃ j, 8 * l + j < m + 1 ∧ g (8 * l + j) = 2) from by
                    rw [HSM.out]
                    constructor
                    · rintro ⟨j, h, r⟩; exact ⟨j, by omega, r⟩
                    · rintro ⟨j, h, r⟩
                      refine ⟨j, ?_, r⟩
                      by_cases e : 8 * l + j = m
                      · rw [e] at r; exact absurd r h2
                      · omega)
                  clear WE h2 HSM
                  rcases hne with h0 | h0
                  all_goals
                    rw [h0] at cw
                    clear h0
                    go_wp2_with fail
                    go_roundw
                    case rel => exact ⟨m + 1, sm, by omega, by omega, rfl, by go_num, HS2.out, HWN.out⟩
                    case measure => simp [intOf]; omega
              · have hd : decide ((m : Int) < 8 * (l : Int) + 8) = false := by simp; omega
                obtain rfl : m = 8 * l + 8 := by omega
                have hj : (∃ j, 8 * l + j < 8 * l + 8 ∧ g (8 * l + j) = 2) ↔ ∃ j, j < 8 ∧ g (8 * l + j) = 2 := ⟨fun ⟨j, h, r⟩ => ⟨j, by omega, r⟩, fun ⟨j, h, r⟩ => ⟨j, by omega, r⟩⟩
                cases sm with
                | true =>
                  have hT := HT.out l hl3
                  obtain ⟨ct, ft⟩ := WE.ct l hl3
                  rw [upT_at] at ct
                  have HWN := Lib.hid ((WE.setT l (t l + 1)).congr (g3 := feG g (8 * (l + 1))) (fun j _ => rfl) (t3 := upT t (fenT g t) (l + 1)) fun i _ => by rw [← fenT_yes g t l (hj.1 (HSM.out.1 rfl))]; exact upT_next t _ l i)
                  clear WE HSM hj
                  generalize t l = tl at *
                  go_wp2_with fail
                  go_roundw
                  case rel => exact ⟨l + 1, by omega, by go_num, HWN.out⟩
                  case measure => simp [intOf]; omega
                | false =>
                  have HWN := Lib.hid (WE.congr (g3 := feG g (8 * (l + 1))) (fun j _ => rfl) (t3 := upT t (fenT g t) (l + 1)) fun i _ => upT_skip t _ l i (fenT_no g t l fun q => by have := HSM.out.2 (hj.2 q); cases this))
                  clear WE HSM hj
                  go_wp2_with fail
                  go_roundw
                  case rel => exact ⟨l + 1, by omega, by go_num, HWN.out⟩
                  case measure => simp [intOf]; omega
          · obtain rfl : l = 3 := by omega
            have HWN := Lib.hid (WE.congr (fun j hj => feG_all g j hj) (t3 := fenT g t) fun i hi => by unfold upT; rw [if_pos hi])
            clear WE
            rw [show ((3 : Nat) : Int) = 3 from rfl]
            go_wp2_with fail
            go_roundw
            case rel => exact ⟨k + 1, c + 1, _, _, by omega, by omega, by go_num, HWN.out⟩
            case measure => simp [intOf]; omega
    · obtain rfl : k = M := by omega
      obtain ⟨c0, f0⟩ := WE.ct 0 (by omega)
      obtain ⟨c1, f1⟩ := WE.ct 1 (by omega)
      obtain ⟨c2, f2⟩ := WE.ct 2 (by omega)
      obtain ⟨tz, htz⟩ : ∃ tz : Int → Int, ∀ l : Nat, tz (l : Int) = t l := ⟨fun z => t z.toNat, fun l => by dsimp only; rw [Int.toNat_natCast]⟩
      have HZ := Lib.hid (show ∀ (n : Nat) (z : Int), 0 ≤ z → z < 3 → Calls Try.prog 28 #[.pointer (some ⟨a.bd, 0, none⟩), .int .i64 z] (wr.drewN n) fun e w' => e = .returned (.int .i64 (tz z)) ∧ w' = wr.drewN n from fun n z h0 h1 => by
        obtain ⟨l, rfl⟩ := Int.eq_ofNat_of_zero_le h0
        have := calls_flipC (wz_wear (WE.dev.gr ((Gr.refl [] wr).drewN n) (by simp)) l (by omega))
        rw [← htz] at this
        exact this)
      have HG := Lib.hid WE.gr
      have e0 : t 0 = tz 0 := (htz 0).symm
      have e1 : t 1 = tz 1 := (htz 1).symm
      have e2 : t 2 = tz 2 := (htz 2).symm
      rw [e0] at c0
      rw [e1] at c1
      rw [e2] at c2
      clear WE f0 f1 f2 htz e0 e1 e2
      go_wp2_with fail
      go_quiet ((first
        | (go_at_call 28; exact Calls.quiet_of_same (HZ.out _ _ (by decide) (by decide)))))
      go_wp2_with fail
      go_ret
      exact ⟨rfl, HG.out.drewN _⟩

set_option maxRecDepth 100000 in
set_option maxHeartbeats 4000000 in
theorem wears_none (ao : Option Addr) (cap : Nat) (w : World) (hn : ao = none → cap = 0) (hmax : cap ≤ maxLen) :
    Calls Try.prog 6 #[.slice ao 0 cap] w fun e w' => e = .returned (.bool true) ∧ Gr [] w w' := by
  have hmn := minIsP Try.prog 0 0 80 80 rfl rfl
  unfold maxLen at hmax
  have HN := Lib.hid hn
  clear hn
  cases ao
  case none =>
    obtain rfl := HN.out rfl
    go_enter Try.func6, Try.ntmps6
    go_wp2_with fail
    refine (pmnew_yes 3 _ (by omega) (by omega)).mono ?_
    rintro e w1 ⟨a, rfl, d1, hlo, g1⟩
    go_wp2_with fail
    refine (wakes03 _).mono ?_
    rintro e w2 ⟨rfl, q2⟩
    have d2 := d1.gr0 q2
    have g2 := g1.next0 q2
    clear d1 g1 q2 hlo
    go_wp2_with fail
    refine wp_loop_rounds 1 ?_
    rw [rounds_succ]
    have q0 : Gr [] w2 ((w2.alloc (.cells #[Value.int .i64 0, Value.int .i64 0, Value.int .i64 0] 56)).alloc (.cells #[Value.int .u8 0, Value.int .u8 0, Value.int .u8 0, Value.int .u8 0, Value.int .u8 0, Value.int .u8 0, Value.int .u8 0, Value.int .u8 0, Value.int .u8 0, Value.int .u8 0, Value.int .u8 0, Value.int .u8 0, Value.int .u8 0, Value.int .u8 0, Value.int .u8 0, Value.int .u8 0, Value.int .u8 0, Value.int .u8 0, Value.int .u8 0, Value.int .u8 0, Value.int .u8 0, Value.int .u8 0, Value.int .u8 0, Value.int .u8 0] 57)) := ((Gr.refl [] w2).alloc _).alloc _
    have hb := (Holds.new w2 #[Value.int .i64 0, Value.int .i64 0, Value.int .i64 0] 56).alloc (.cells #[Value.int .u8 0, Value.int .u8 0, Value.int .u8 0, Value.int .u8 0, Value.int .u8 0, Value.int .u8 0, Value.int .u8 0, Value.int .u8 0, Value.int .u8 0, Value.int .u8 0, Value.int .u8 0, Value.int .u8 0, Value.int .u8 0, Value.int .u8 0, Value.int .u8 0, Value.int .u8 0, Value.int .u8 0, Value.int .u8 0, Value.int .u8 0, Value.int .u8 0, Value.int .u8 0, Value.int .u8 0, Value.int .u8 0, Value.int .u8 0] 57)
    have d3 := d2.gr0 q0
    have g3 := g2.next0 q0
    clear d2 g2 q0
    generalize (w2.alloc (.cells #[Value.int .i64 0, Value.int .i64 0, Value.int .i64 0] 56)).alloc (.cells #[Value.int .u8 0, Value.int .u8 0, Value.int .u8 0, Value.int .u8 0, Value.int .u8 0, Value.int .u8 0, Value.int .u8 0, Value.int .u8 0, Value.int .u8 0, Value.int .u8 0, Value.int .u8 0, Value.int .u8 0, Value.int .u8 0, Value.int .u8 0, Value.int .u8 0, Value.int .u8 0, Value.int .u8 0, Value.int .u8 0, Value.int .u8 0, Value.int .u8 0, Value.int .u8 0, Value.int .u8 0, Value.int .u8 0, Value.int .u8 0] 57) = wr at *
    have c0 := hb.cell 0
    have c1 := hb.cell 1
    have c2 := hb.cell 2
    have HZ := Lib.hid (show ∀ (n : Nat) (z : Int), 0 ≤ z → z < 3 → Calls Try.prog 28 #[.pointer (some ⟨a.bd, 0, none⟩), .int .i64 z] (wr.drewN n) fun e w' => e = .returned (.int .i64 0) ∧ w' = wr.drewN n from fun n z h0 h1 => by
      obtain ⟨l, rfl⟩ := Int.eq_ofNat_of_zero_le h0
      exact calls_flipC (wear_in a _ l _ (d3.gr0 ((Gr.refl [] wr).drewN n)) (by show l < 3; omega)))
    have HG := Lib.hid g3
    clear hb d3 g3
    go_wp2_with fail
    go_quiet ((first
      | (go_at_call 28; exact Calls.quiet_of_same (HZ.out _ _ (by decide) (by decide)))))
    go_wp2_with fail
    go_ret
    exact ⟨rfl, HG.out.drewN _⟩
  case some ad =>
    clear HN
    go_enter Try.func6, Try.ntmps6
    go_wp2_with fail
    refine (pmnew_yes 3 _ (by omega) (by omega)).mono ?_
    rintro e w1 ⟨a, rfl, d1, hlo, g1⟩
    go_wp2_with fail
    refine (wakes03 _).mono ?_
    rintro e w2 ⟨rfl, q2⟩
    have d2 := d1.gr0 q2
    have g2 := g1.next0 q2
    clear d1 g1 q2 hlo
    go_wp2_with fail
    refine wp_loop_rounds 1 ?_
    rw [rounds_succ]
    have q0 : Gr [] w2 ((w2.alloc (.cells #[Value.int .i64 0, Value.int .i64 0, Value.int .i64 0] 56)).alloc (.cells #[Value.int .u8 0, Value.int .u8 0, Value.int .u8 0, Value.int .u8 0, Value.int .u8 0, Value.int .u8 0, Value.int .u8 0, Value.int .u8 0, Value.int .u8 0, Value.int .u8 0, Value.int .u8 0, Value.int .u8 0, Value.int .u8 0, Value.int .u8 0, Value.int .u8 0, Value.int .u8 0, Value.int .u8 0, Value.int .u8 0, Value.int .u8 0, Value.int .u8 0, Value.int .u8 0, Value.int .u8 0, Value.int .u8 0, Value.int .u8 0] 57)) := ((Gr.refl [] w2).alloc _).alloc _
    have hb := (Holds.new w2 #[Value.int .i64 0, Value.int .i64 0, Value.int .i64 0] 56).alloc (.cells #[Value.int .u8 0, Value.int .u8 0, Value.int .u8 0, Value.int .u8 0, Value.int .u8 0, Value.int .u8 0, Value.int .u8 0, Value.int .u8 0, Value.int .u8 0, Value.int .u8 0, Value.int .u8 0, Value.int .u8 0, Value.int .u8 0, Value.int .u8 0, Value.int .u8 0, Value.int .u8 0, Value.int .u8 0, Value.int .u8 0, Value.int .u8 0, Value.int .u8 0, Value.int .u8 0, Value.int .u8 0, Value.int .u8 0, Value.int .u8 0] 57)
    have d3 := d2.gr0 q0
    have g3 := g2.next0 q0
    clear d2 g2 q0
    generalize (w2.alloc (.cells #[Value.int .i64 0, Value.int .i64 0, Value.int .i64 0] 56)).alloc (.cells #[Value.int .u8 0, Value.int .u8 0, Value.int .u8 0, Value.int .u8 0, Value.int .u8 0, Value.int .u8 0, Value.int .u8 0, Value.int .u8 0, Value.int .u8 0, Value.int .u8 0, Value.int .u8 0, Value.int .u8 0, Value.int .u8 0, Value.int .u8 0, Value.int .u8 0, Value.int .u8 0, Value.int .u8 0, Value.int .u8 0, Value.int .u8 0, Value.int .u8 0, Value.int .u8 0, Value.int .u8 0, Value.int .u8 0, Value.int .u8 0] 57) = wr at *
    have c0 := hb.cell 0
    have c1 := hb.cell 1
    have c2 := hb.cell 2
    have HZ := Lib.hid (show ∀ (n : Nat) (z : Int), 0 ≤ z → z < 3 → Calls Try.prog 28 #[.pointer (some ⟨a.bd, 0, none⟩), .int .i64 z] (wr.drewN n) fun e w' => e = .returned (.int .i64 0) ∧ w' = wr.drewN n from fun n z h0 h1 => by
      obtain ⟨l, rfl⟩ := Int.eq_ofNat_of_zero_le h0
      exact calls_flipC (wear_in a _ l _ (d3.gr0 ((Gr.refl [] wr).drewN n)) (by show l < 3; omega)))
    have HG := Lib.hid g3
    clear hb d3 g3
    go_wp2_with fail
    go_quiet ((first
      | (go_at_call 28; exact Calls.quiet_of_same (HZ.out _ _ (by decide) (by decide)))))
    go_wp2_with fail
    go_ret
    exact ⟨rfl, HG.out.drewN _⟩

theorem walk_PmWears (v : Value) (xs : List Int) {w : World} (h : SlI .u8 w v xs) (hx : ∀ x ∈ xs, (Lit.int .u8 x).wf = true) :
    Calls Try.prog 6 #[v] w fun e w' => e = .returned (.bool true) ∧ Below w.heap.size w w' := by
  rcases h with ⟨ao, cap, rfl, rfl, hn, hm⟩ | ⟨b, off, cap, rfl, h1, h2, h3, h4, h5⟩
  · exact (wears_none ao cap w hn hm).mono fun _ _ q => ⟨q.1, q.2.below0⟩
  · exact (wears_some b off cap xs w (fun x q => bounds_u8 (hx x q)) h1 h2 h3 h4 h5).mono fun _ _ q => ⟨q.1, q.2.below0⟩

end Go.Proofs.Ytphaaebbofgdnaa
