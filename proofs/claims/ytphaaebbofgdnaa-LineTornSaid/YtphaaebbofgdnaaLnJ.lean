/-
  LineTorn, the walk.
-/
import Derived.Test.YtphaaebbofgdnaaLnI
namespace Go.Proofs.Ytphaaebbofgdnaa
open Go.RowKit

theorem keep_of {w0 w1 : World} {v : Value} {kf : Nat → Bool} (h : w1.ownsRow w0.heap.size 4 1 v 8 ((List.range 8).map fun j => .bool (kf j))) : KeepIs w1 v 8 (fun j => if j < 8 then kf j else false) := by
  have hcells := fun g (hg : v.ownBlock = some g) => h.cells hg
  rcases h.2 with ⟨_, h0⟩ | ⟨g, cap, cur, rfl, hg, hh, _⟩
  · omega
  · refine ⟨some ⟨g, 0, none⟩, cap, rfl, fun j hj => ⟨g, 0, rfl, (Array.getElem?_eq_some_iff.1 hh).1, ?_⟩, fun j hj => if_neg (by omega), by unfold maxLen; omega⟩
    have := hcells g rfl j (.bool (kf j)) (by rw [List.getElem?_map, List.getElem?_range hj]; rfl)
    rw [addp] at this
    rw [Nat.zero_add, this]
    dsimp only
    rw [if_pos hj]

theorem KeepIs.grT {W W' : World} {v : Value} {kl : Nat} {kp : Nat → Bool} (h : KeepIs W v kl kp) (g : Gr [] W W') : KeepIs W' v kl kp := by
  obtain ⟨ao, kc, rfl, h1, h2⟩ := h
  refine ⟨ao, kc, rfl, fun j hj => ?_, h2⟩
  obtain ⟨b, o, e, hb, hc⟩ := h1 j hj
  exact ⟨b, o, e, Nat.lt_of_lt_of_le hb g.size, (g.cell0 hb).trans hc⟩
theorem torn_round (s : ByteArray) (k v : Nat) (h : k < s.size) (h8 : k < 8) (hv : v = getL ((s.data.toList.take 8).drop (k + 1))) :
    bits .or .u64 (IntKind.u64.wrap ((v : Int) * 256)) (IntKind.u64.wrap (s[k].toNat : Int)) = ((getL ((s.data.toList.take 8).drop k) : Nat) : Int) := by
  have hl : k < s.data.toList.length := by simpa using h
  have hlt : k < (s.data.toList.take 8).length := by rw [List.length_take]; omega
  have hb : s[k].toNat < 256 := s[k].toNat_lt
  have es : (s.data.toList.take 8)[k] = s[k] := by rw [List.getElem_take]; rfl
  have hv2 : v < 256 ^ 7 := by
    rw [hv]
    refine Nat.lt_of_lt_of_le (getL_lt _) (Nat.pow_le_pow_right (by omega) ?_)
    rw [List.length_drop, List.length_take]
    omega
  have hv3 : v * 256 < 18446744073709551616 := by
    have : (256 : Nat) ^ 7 = 72057594037927936 := by decide
    omega
  have w0 : IntKind.u64.wrap (s[k].toNat : Int) = (s[k].toNat : Int) := IntWalk.u64_in _ (by omega)
  have w1 : IntKind.u64.wrap ((v : Int) * 256) = ((v * 256 : Nat) : Int) := by
    have c : (v : Int) * 256 = ((v * 256 : Nat) : Int) := by omega
    rw [c, IntKind.wrap_u64]; omega
  have e : v * 256 ||| s[k].toNat = s[k].toNat + 256 * v := by
    have q := Nat.two_pow_add_eq_or_of_lt (i := 8) (b := s[k].toNat) (by omega) v
    rw [Nat.mul_comm v 256]
    have p8 : (2 : Nat) ^ 8 = 256 := by decide
    rw [p8] at q
    omega
  rw [w0, w1, u64_or_nat _ _ hv3 (by omega), e, List.drop_eq_getElem_cons hlt, es, hv]
  rfl
theorem mixB_of {A B G : ByteArray} (hA : A.size = 64) (hB : B.size = 64) (hG : G.size = 64) (h : ∀ j, j < 8 → wdL G.data.toList j = wdL A.data.toList j ∨ wdL G.data.toList j = wdL B.data.toList j) : mixB A B G = true := by
  unfold mixB
  rw [decide_eq_true ⟨hA, hB, hG⟩, Bool.true_and, List.all_eq_true]
  intro j hj
  rw [List.mem_range] at hj
  rcases h j hj with q | q <;> simp [q]
/-- What Off, Boot and Get answer behind a Put, done or not. -/
theorem after_put {a : DevA} {E : DevS} {P Q : Nat → Nat} {c kl : Nat} {kv : Value} {kp : Nat → Bool} {W : World} (d : DevIs W a E) (b : Bd E c) (hc : c < 1000000) (h : Tor E P Q) (hk : KeepIs W kv kl kp) :
    Calls Try.prog 21 #[.pointer (some ⟨a.bd, 0, none⟩), kv] W fun e w' => ∃ E', e = .returned (.tuple #[]) ∧ DevIs w' a E' ∧ Gr a.all W w' ∧ Calm E' ∧ E'.n = 1 ∧ (∀ k, k < 8 → wdL (gotS E').data.toList k = P k ∨ wdL (gotS E').data.toList k = Q k) ∧ ∀ k, k < 8 → E.med k = Q k → wdL (gotS E').data.toList k = Q k := by
  refine (boot_any a E kv kl kp W d hk (fun l => by have := b.2 l; omega) (by have := b.1; omega)).mono ?_
  rintro e w' ⟨rfl, ⟨L, hL, d2⟩, g⟩
  obtain ⟨h1, h2, h3, h4⟩ := h.boot kp hL
  refine ⟨_, rfl, d2, g, h2, h3, fun k hk => ?_, fun k hk q => ?_⟩
  · rw [gotS_word h2 d2.ok.medB k hk]; exact h1 k hk
  · rw [gotS_word h2 d2.ok.medB k hk]; exact h4 k hk q

set_option maxRecDepth 100000 in
set_option maxHeartbeats 16000000 in
theorem torn_law (s t : ByteArray) (p q : Nat) (w : World) (hp : p < 256) (hq : q < 256) (hs2 : s.size ≤ 4611686018427387904) (ht2 : t.size ≤ 4611686018427387904) :
    Calls Try.prog 9 #[.string s, .string t, .agg #[.int .u8 (p : Int), .int .u8 (q : Int)]] w fun e w' => e = .returned (.bool true) ∧ Gr [] w w' := by
  obtain ⟨i0, hi, hz0, hz1, hz2⟩ := info_parts infoB
  have HFS := Lib.hid (fun W => full_any s W hs2)
  have HFT := Lib.hid (fun W => full_any t W ht2)
  obtain ⟨A, hA⟩ : ∃ A, fullS s = A := ⟨_, rfl⟩
  obtain ⟨B, hB⟩ : ∃ B, fullS t = B := ⟨_, rfl⟩
  have hAs : A.size = 64 := by rw [← hA]; exact fullS_size s
  have hBs : B.size = 64 := by rw [← hB]; exact fullS_size t
  rw [hA] at HFS
  rw [hB] at HFT
  have HML := Lib.hid (show (64 : Nat) ≤ maxLen by unfold maxLen; omega)
  have X := Holds.new w #[Value.int .u8 (p : Int), .int .u8 (q : Int)] 79
  have HX := Lib.hid (And.intro X ((Gr.refl [] w).alloc (Obj.cells #[Value.int .u8 (p : Int), .int .u8 (q : Int)] 79)))
  clear hA hB hs2 ht2 X
  go_enter Try.func9, Try.ntmps9
  go_wp2_with fail
  refine (HFS.out _).mono ?_
  rintro e w1 ⟨rfl, g1⟩
  go_wp2_with fail
  refine (HFT.out _).mono ?_
  rintro e w2 ⟨rfl, g2⟩
  have HX := Lib.hid (And.intro ((HX.out.1.gr0 g1).gr0 g2) ((HX.out.2.trans g1).trans g2))
  clear g1 g2
  generalize w.heap.size = bx at *
  obtain ⟨kf, hkf⟩ : ∃ kf : Nat → Bool, ∀ k, kf k = (bits .and .u8 ((q : Int) / 2 ^ k) 1 == 1) := ⟨fun k => (bits .and .u8 ((q : Int) / 2 ^ k) 1 == 1), fun _ => rfl⟩
  have HKF := Lib.hid hkf
  clear hkf
  go_wp2_with fail
  go_loopw [9, 25] (fun v z wr => ∃ k : Nat, k ≤ 8 ∧ z = .int .i64 (k : Int) ∧ wr.ownsRow w2.heap.size 4 1 v k ((List.range k).map fun j => .bool (kf j)) ∧ Gr [] w2 wr) (fun _ z _ => 8 - (intOf z).toNat)
  case atStart => exact ⟨0, by omega, rfl, World.ownsRow_nil _ _ _ _, Gr.refl _ _⟩
  case round =>
    obtain ⟨k, hk, rfl, hown, g⟩ := hrel
    by_cases hlt : k < 8
    · have hd : decide ((k : Int) < 8) = true := by simp; omega
      have e1 : wr.cell? ⟨bx, 1, none⟩ = some (.int .u8 (q : Int)) := (HX.out.1.gr0 g).cell 1
      have hsz := g.size
      have HG := Lib.hid (And.intro hown g)
      clear g
      go_wp2_with (at_builtin; refine wpList_append_own _ rfl _ _ 31 rfl w2.heap.size 4 i0 (.bool false) 1 1 Try.underlying31 hi hz0 hz1 hz2 rfl (by decide) _ _ _ rfl (hown.alloc _) ⟨wr.heap.size, 0, none⟩ 1 1 [.bool (bits .and .u8 ((q : Int) / 2 ^ k) 1 == 1)] rfl rfl ?c1 ?c2 ?c3 ?c4 ?c5 ?_)
      case c1 =>
        intro a u ha
        match a, ha with
        | 0, ha => simp at ha; subst ha; simp [Addr.add]
      case c2 => intro u hu; simp at hu; subst hu; rfl
      case c3 => unfold maxLen; omega
      case c4 => omega
      case c5 => simp; omega
      intro v' w3 hown3 hgrow _
      have HN := Lib.hid (show w3.ownsRow w2.heap.size 4 1 v' (k + 1) ((List.range (k + 1)).map fun j => .bool (kf j)) ∧ Gr [] w2 w3 from by
        refine ⟨?_, ?_⟩
        · rw [List.range_succ, List.map_append]
          show w3.ownsRow w2.heap.size 4 1 v' (k + 1) (_ ++ [.bool (kf k)])
          rw [HKF.out k]
          exact hown3
        · exact ((HG.out.2.alloc _).grown hgrow (fun x hx => .inr (hown.lt x hx).1)))
      clear hown3 hgrow hown e1
      go_wp2_with fail
      go_roundw
      case rel => exact ⟨k + 1, by omega, by go_num, HN.out.1, HN.out.2⟩
      case measure => simp [intOf]; omega
    · obtain rfl : k = 8 := by omega
      have HKP := Lib.hid (keep_of hown)
      have HX := Lib.hid (And.intro (HX.out.1.gr0 g) (HX.out.2.trans g))
      clear hown g
      rw [show ((8 : Nat) : Int) = 8 from rfl]
      obtain ⟨w3, hw3⟩ : ∃ w3, w3 = wr := ⟨_, rfl⟩
      rw [← hw3] at HKP HX ⊢
      clear hw3
      go_wp2_with fail
      go_loopw [38] (fun z wr => ∃ r : Nat, r ≤ 2 ∧ z = .int .i64 (r : Int) ∧ Gr [] w3 wr) (fun z _ => 2 - (intOf z).toNat)
      case atStart => exact ⟨0, by omega, rfl, Gr.refl _ _⟩
      case round =>
        obtain ⟨r, hr, rfl, g0⟩ := hrel
        by_cases hr2 : r < 2
        · have hdr : decide ((r : Int) < 2) = true := by simp; omega
          have HG0 := Lib.hid g0
          clear g0
          go_wp2_with fail
          refine (pmnew_yes 1 _ (by omega) (by omega)).mono ?_
          rintro e w4 ⟨a, rfl, d4, hlo, g4⟩
          have HN := Lib.hid (show ∀ (wa wb : World), Gr [] w3 wa → Gr a.all wa wb → Gr [] w3 wb from fun wa wb p q => p.nextN q fun x hx => .inr (by have := hlo x hx; have := HG0.out.size; omega))
          have HD := Lib.hid (And.intro d4 (HG0.out.trans g4))
          clear d4 hlo g4
          go_wp2_with fail
          refine (wakes04 _).mono ?_
          rintro e w5 ⟨rfl, q5⟩
          have HD := Lib.hid (And.intro (HD.out.1.gr0 q5) (HD.out.2.trans q5))
          clear q5
          obtain ⟨E1, p1, s1⟩ := put_calm (D := newD 1) (l := 0) (s := A) ⟨rfl, rfl, fun _ => rfl⟩ (by show 0 < 1; omega) hAs
          have HP := Lib.hid (lput_any a (newD 1) ((0 : Nat) : Int) A 0 w5 HD.out.1 ⟨Nat.le_refl _, fun l => ⟨Int.le_refl _, Int.le_refl _⟩⟩ (by omega) (by rw [hAs]; exact HML.out))
          rw [p1] at HP
          have HE1 := Lib.hid s1
          clear p1 s1
          go_wp2_with fail
          refine HP.out.mono ?_
          rintro e w6 ⟨rfl, d6, b6, q6⟩
          have HD := Lib.hid (And.intro d6 (And.intro b6 (HN.out _ _ HD.out.2 q6)))
          have e0 : w6.cell? ⟨bx, 0, none⟩ = some (.int .u8 (p : Int)) := (HX.out.1.gr0 HD.out.2.2).cell 0
          obtain ⟨F, hF⟩ : ∃ F : Nat, 1 + (p : Int) % 11 = (F : Int) := ⟨1 + p % 11, by omega⟩
          have HFu := Lib.hid (fuse_any a E1 (F : Int) (by omega) w6 d6)
          clear d6 b6 q6 HP
          go_wp2_with fail
          refine HFu.out.mono ?_
          rintro e w7 ⟨rfl, d7, q7⟩
          obtain ⟨E2, hE2⟩ : ∃ E2 : DevS, { E1 with fuse := mx (F : Int) } = E2 := ⟨_, rfl⟩
          rw [hE2] at d7
          have b7 : Bd E2 10 := by rw [← hE2]; exact HD.out.2.1
          have o7 : E2.off = false := by rw [← hE2]; exact HE1.out.calm.off
          have tor : ∀ Q : Nat → Nat, Tor E2 (wdL A.data.toList) Q := fun Q => by
            rw [← hE2]
            refine ⟨HE1.out.n, by rw [show ({ E1 with fuse := mx (F : Int) } : DevS).bad = E1.bad from rfl, HE1.out.bad]; rfl, fun k hk => .inl ?_, fun k hk => .inl (HE1.out.calm.buf _)⟩
            show E1.med k = _
            rw [HE1.out.med, if_pos ⟨by omega, by omega, rfl⟩]
            rfl
          have HD := Lib.hid (And.intro d7 (HN.out _ _ HD.out.2.2 (q7.mono (cs := a.all) (fun b hb => by simp at hb; subst hb; simp [DevA.all]))))
          have HT := Lib.hid (And.intro tor (And.intro b7 o7))
          clear d7 q7 b7 o7 tor hE2 e0 HFu hF HE1
          go_wp2_with fail
          rcases (show r = 0 ∨ r = 1 by omega) with rfl | rfl
          · obtain ⟨E, tE, hcase⟩ := stos_tor (wdL A.data.toList) (wdL B.data.toList) 8 (wdL B.data.toList) (by omega) (fun _ _ => rfl) 8 0 E2 rfl (HT.out.1 _) HT.out.2.2 (fun k hk => by omega)
            have hpe : putE E2 ((0 : Nat) : Int) B = stos 0 0 (wdL B.data.toList) 8 0 E2 := by
              unfold putE
              rw [if_neg (by simp [hBs]), if_pos (by unfold isLine; rw [decide_eq_true_eq, (HT.out.1 (wdL B.data.toList)).n]; omega)]
              rfl
            have HP := Lib.hid (fun n => lput_any a E2 ((0 : Nat) : Int) B 10 (w7.drewN n) (HD.out.1.gr0 ((Gr.refl [] w7).drewN n)) HT.out.2.1 (by omega) (by rw [hBs]; exact HML.out))
            rw [hpe] at HP
            have HTE := Lib.hid tE
            clear hpe tE
            rcases hcase with ⟨hst, hoff, hmed⟩ | ⟨hst, hoff⟩
            · rw [hst] at HP
              have HOf := Lib.hid (fun W (d : DevIs W a E) => off_any a E W d)
              rw [hoff] at HOf
              have HMed := Lib.hid hmed
              clear hst hoff hmed
              go_quiet (fail)
              go_wp2_with fail
              refine (HP.out _).mono ?_
              rintro e w9 ⟨rfl, d9, b9, q9⟩
              have HD := Lib.hid (And.intro d9 (And.intro b9 (HN.out _ _ (HD.out.2.drewN _) q9)))
              clear d9 b9 q9 HP
              go_wp2_with fail
              refine (HOf.out _ HD.out.1).mono ?_
              rintro e w' ⟨rfl, rfl⟩
              have HBt := Lib.hid (after_put HD.out.1 HD.out.2.1 (by omega) HTE.out (KeepIs.grT HKP.out HD.out.2.2))
              go_wp2_with fail
              refine HBt.out.mono ?_
              rintro e w10 ⟨E', rfl, d10, q10, cm, en, hmix, hall⟩
              have HGt := Lib.hid (get_yes a E' 0 w10 d10 (by rw [en]; omega) cm.off)
              have HGG := Lib.hid (HN.out _ _ HD.out.2.2 q10)
              have HMX := Lib.hid (And.intro hmix hall)
              clear d10 q10 cm en hmix hall HBt
              go_wp2_with fail
              refine HGt.out.mono ?_
              rintro e w11 ⟨rfl, q11⟩
              have HGG := Lib.hid (HGG.out.trans q11)
              clear q11 HGt
              rw [show (⟨(getT E' 0).toArray⟩ : ByteArray) = gotS E' from rfl]
              have hGB : gotS E' = B := bytes_eq (gotS_size _) hBs (fun k hk => HMX.out.2 k hk (HMed.out k hk))
              rw [hGB]
              have HMi := Lib.hid (mixed_any A B B w11 (by rw [hAs]; exact HML.out) (by rw [hBs]; exact HML.out) (by rw [hBs]; exact HML.out))
              rw [mixB_of hAs hBs hBs (fun j _ => .inr rfl)] at HMi
              clear hGB
              go_wp2_with fail
              refine HMi.out.mono ?_
              rintro e w12 ⟨rfl, q12⟩
              have HGG := Lib.hid (HGG.out.trans q12)
              clear q12 HMi
              go_wp2_with fail
              go_roundw
              case rel => exact ⟨1, by omega, by go_num, HGG.out⟩
              case measure => simp [intOf]
            · rw [hst] at HP
              have HOf := Lib.hid (fun W (d : DevIs W a E) => off_any a E W d)
              rw [hoff] at HOf
              clear hst hoff
              go_quiet (fail)
              go_wp2_with fail
              refine (HP.out _).mono ?_
              rintro e w9 ⟨rfl, d9, b9, q9⟩
              have HD := Lib.hid (And.intro d9 (And.intro b9 (HN.out _ _ (HD.out.2.drewN _) q9)))
              clear d9 b9 q9 HP
              go_wp2_with fail
              refine (HOf.out _ HD.out.1).mono ?_
              rintro e w' ⟨rfl, rfl⟩
              have HBt := Lib.hid (after_put HD.out.1 HD.out.2.1 (by omega) HTE.out (KeepIs.grT HKP.out HD.out.2.2))
              go_wp2_with fail
              refine HBt.out.mono ?_
              rintro e w10 ⟨E', rfl, d10, q10, cm, en, hmix, hall⟩
              have HGt := Lib.hid (get_yes a E' 0 w10 d10 (by rw [en]; omega) cm.off)
              have HGG := Lib.hid (HN.out _ _ HD.out.2.2 q10)
              have HMX := Lib.hid (And.intro hmix hall)
              clear d10 q10 cm en hmix hall HBt
              go_wp2_with fail
              refine HGt.out.mono ?_
              rintro e w11 ⟨rfl, q11⟩
              have HGG := Lib.hid (HGG.out.trans q11)
              clear q11 HGt
              rw [show (⟨(getT E' 0).toArray⟩ : ByteArray) = gotS E' from rfl]
              have HMi := Lib.hid (mixed_any A B (gotS E') w11 (by rw [hAs]; exact HML.out) (by rw [hBs]; exact HML.out) (by rw [gotS_size]; exact HML.out))
              rw [mixB_of hAs hBs (gotS_size _) HMX.out.1] at HMi
              generalize gotS E' = G at *
              go_wp2_with fail
              refine HMi.out.mono ?_
              rintro e w12 ⟨rfl, q12⟩
              have HGG := Lib.hid (HGG.out.trans q12)
              clear q12 HMi
              go_wp2_with fail
              go_roundw
              case rel => exact ⟨1, by omega, by go_num, HGG.out⟩
              case measure => simp [intOf]
          · go_quiet (fail)
            obtain ⟨C, hC⟩ : ∃ C, B.extract 0 8 ++ A.extract 8 64 = C := ⟨_, rfl⟩
            have HCC := Lib.hid (show C = oneS A B from hC.symm)
            rw [hC, show ((1 : Nat) : Int) = 1 from rfl]
            clear hC
            have HD := Lib.hid (And.intro (HD.out.1.gr0 ((Gr.refl [] w7).drewN nq)) (HD.out.2.drewN nq))
            generalize w7.drewN nq = w8 at *
            go_wp2_with fail
            go_loopw [16, 17] (fun u z wr => ∃ m v : Nat, m ≤ 8 ∧ u = .int .u64 (v : Int) ∧ z = .int .i64 ((m : Int) - 1) ∧ v = getL ((B.data.toList.take 8).drop m) ∧ w8 = wr) (fun _ z _ => (intOf z + 1).toNat)
            case atStart => exact ⟨8, 0, by omega, rfl, rfl, by rw [List.drop_eq_nil_of_le (by rw [List.length_take]; omega)]; rfl, rfl⟩
            case round =>
              obtain ⟨m, v, hm, rfl, rfl, hv, rfl⟩ := hrel
              by_cases hlt : 0 < m
              · obtain ⟨k, rfl⟩ : ∃ k, m = k + 1 := ⟨m - 1, by omega⟩
                have hk1 : (((k + 1 : Nat) : Int) - 1) = (k : Int) := by omega
                have hd : decide ((0 : Int) ≤ (k : Int)) = true := by simp
                have hd2 : decide ((0 : Int) ≤ ((k + 1 : Nat) : Int) - 1) = true := by first | (simp; done) | (simp; omega)
                have hkB : k < B.size := by omega
                have HV := Lib.hid (show getL ((B.data.toList.take 8).drop k) = getL ((B.data.toList.take 8).drop k) from rfl)
                have hor := torn_round B k v hkB (by omega) hv
                clear hv
                obtain ⟨v2, hv2⟩ : ∃ v2, v2 = getL ((B.data.toList.take 8).drop k) := ⟨_, rfl⟩
                rw [← hv2] at hor
                have HV2 := Lib.hid hv2
                clear hv2 HV
                rw [hk1]
                go_wp2_with fail
                go_roundw
                case rel => exact ⟨k, v2, by omega, rfl, rfl, HV2.out, by first | rfl | trivial⟩
                case measure => first | (simp [intOf]; done) | (simp [intOf]; omega)
              · obtain rfl : m = 0 := by omega
                have hv3 : v = wdL B.data.toList 0 := by rw [hv]; unfold wdL; rw [List.drop_zero, Nat.mul_zero, List.drop_zero]
                have hvlt : v < 18446744073709551616 := by rw [hv3]; exact wdL_lt _ _
                obtain ⟨Q, hQ⟩ : ∃ Q : Nat → Nat, Q = fun k => if k = 0 then v else wdL A.data.toList k := ⟨_, rfl⟩
                obtain ⟨E, tE, hcase⟩ := stos_tor (wdL A.data.toList) Q 1 (fun _ => v) (by omega) (fun j hj => by rw [hQ]; dsimp only; rw [if_pos (by omega)]) 1 0 E2 rfl (HT.out.1 _) HT.out.2.2 (fun k hk => by omega)
                have hpe : pwE E2 ((0 : Nat) : Int) ((0 : Nat) : Int) v = stos 0 0 (fun _ => v) 1 0 E2 := by
                  unfold pwE
                  rw [if_neg (by omega), if_pos (by unfold isLine; rw [decide_eq_true_eq, (HT.out.1 Q).n]; omega)]
                  rfl
                have HP := Lib.hid (putword_any a E2 ((0 : Nat) : Int) ((0 : Nat) : Int) v 10 w8 HD.out.1 HT.out.2.1 (by omega) hvlt)
                rw [hpe] at HP
                have HTE := Lib.hid tE
                have HQ := Lib.hid (show ∀ k, k < 8 → (wdL C.data.toList k = Q k) from fun k hk => by rw [HCC.out, oneS_word hAs hBs k hk, hQ, ← hv3])
                have HQA := Lib.hid (show ∀ k, k < 8 → k ≠ 0 → Q k = wdL A.data.toList k from fun k hk hne => by rw [hQ]; dsimp only; rw [if_neg hne])
                have hCs : C.size = 64 := by rw [HCC.out]; exact oneS_size hAs hBs
                clear hpe tE hv hv3 hvlt hQ hlt hm
                rw [show (((0 : Nat) : Int) - 1) = -1 from rfl]
                rcases hcase with ⟨hst, hoff, hmed⟩ | ⟨hst, hoff⟩
                · rw [hst] at HP
                  have HOf := Lib.hid (fun W (d : DevIs W a E) => off_any a E W d)
                  rw [hoff] at HOf
                  have HMed := Lib.hid hmed
                  clear hst hoff hmed
                  go_wp2_with fail
                  refine HP.out.mono ?_
                  rintro e w9 ⟨rfl, d9, b9, q9⟩
                  have HD := Lib.hid (And.intro d9 (And.intro b9 (HN.out _ _ HD.out.2 q9)))
                  clear d9 b9 q9 HP
                  go_wp2_with fail
                  refine (HOf.out _ HD.out.1).mono ?_
                  rintro e w' ⟨rfl, rfl⟩
                  have HBt := Lib.hid (after_put HD.out.1 HD.out.2.1 (by omega) HTE.out (KeepIs.grT HKP.out HD.out.2.2))
                  go_wp2_with fail
                  refine HBt.out.mono ?_
                  rintro e w10 ⟨E', rfl, d10, q10, cm, en, hmix, hall⟩
                  have HGt := Lib.hid (get_yes a E' 0 w10 d10 (by rw [en]; omega) cm.off)
                  have HGG := Lib.hid (HN.out _ _ HD.out.2.2 q10)
                  have HMX := Lib.hid (And.intro hmix hall)
                  clear d10 q10 cm en hmix hall HBt
                  go_wp2_with fail
                  refine HGt.out.mono ?_
                  rintro e w11 ⟨rfl, q11⟩
                  have HGG := Lib.hid (HGG.out.trans q11)
                  clear q11 HGt
                  rw [show (⟨(getT E' 0).toArray⟩ : ByteArray) = gotS E' from rfl]
                  have hGC : gotS E' = C := bytes_eq (gotS_size _) hCs (fun k hk => by
                    rw [HQ.out k hk]
                    by_cases c : k = 0
                    · subst c; exact HMX.out.2 0 (by omega) (HMed.out 0 (by omega))
                    · rcases HMX.out.1 k hk with h | h
                      · rw [h, HQA.out k hk c]
                      · exact h)
                  rw [hGC]
                  clear hGC
                  by_cases hCA : C = A
                  · rw [hCA]
                    go_wp2_with fail
                    go_roundw
                    case rel => exact ⟨2, by omega, by go_num, HGG.out⟩
                    case measure => simp [intOf]
                  · have b1 := bs_beq_false hCA
                    go_wp2_with fail
                    go_roundw
                    case rel => exact ⟨2, by omega, by go_num, HGG.out⟩
                    case measure => simp [intOf]
                · rw [hst] at HP
                  have HOf := Lib.hid (fun W (d : DevIs W a E) => off_any a E W d)
                  rw [hoff] at HOf
                  clear hst hoff
                  go_wp2_with fail
                  refine HP.out.mono ?_
                  rintro e w9 ⟨rfl, d9, b9, q9⟩
                  have HD := Lib.hid (And.intro d9 (And.intro b9 (HN.out _ _ HD.out.2 q9)))
                  clear d9 b9 q9 HP
                  go_wp2_with fail
                  refine (HOf.out _ HD.out.1).mono ?_
                  rintro e w' ⟨rfl, rfl⟩
                  have HBt := Lib.hid (after_put HD.out.1 HD.out.2.1 (by omega) HTE.out (KeepIs.grT HKP.out HD.out.2.2))
                  go_wp2_with fail
                  refine HBt.out.mono ?_
                  rintro e w10 ⟨E', rfl, d10, q10, cm, en, hmix, hall⟩
                  have HGt := Lib.hid (get_yes a E' 0 w10 d10 (by rw [en]; omega) cm.off)
                  have HGG := Lib.hid (HN.out _ _ HD.out.2.2 q10)
                  have HMX := Lib.hid (And.intro hmix hall)
                  clear d10 q10 cm en hmix hall HBt
                  go_wp2_with fail
                  refine HGt.out.mono ?_
                  rintro e w11 ⟨rfl, q11⟩
                  have HGG := Lib.hid (HGG.out.trans q11)
                  clear q11 HGt
                  rw [show (⟨(getT E' 0).toArray⟩ : ByteArray) = gotS E' from rfl]
                  have hG : gotS E' = A ∨ gotS E' = C := by
                    have hrest : ∀ k, k < 8 → k ≠ 0 → wdL (gotS E').data.toList k = wdL A.data.toList k := fun k hk c => by
                      rcases HMX.out.1 k hk with h | h
                      · exact h
                      · rw [h, HQA.out k hk c]
                    rcases HMX.out.1 0 (by omega) with h | h
                    · exact .inl (bytes_eq (gotS_size _) hAs (fun k hk => by
                        by_cases c : k = 0
                        · subst c; exact h
                        · exact hrest k hk c))
                    · exact .inr (bytes_eq (gotS_size _) hCs (fun k hk => by
                        by_cases c : k = 0
                        · subst c; rw [h, HQ.out 0 (by omega)]
                        · rw [hrest k hk c, HQ.out k hk, HQA.out k hk c]))
                  by_cases hGA : gotS E' = A
                  · rw [hGA]
                    go_wp2_with fail
                    go_roundw
                    case rel => exact ⟨2, by omega, by go_num, HGG.out⟩
                    case measure => simp [intOf]
                  · have hGC : gotS E' = C := hG.resolve_left hGA
                    have hCA : C ≠ A := fun e => hGA (by rw [hGC, e])
                    rw [hGC]
                    have b1 := bs_beq_false hCA
                    clear hG hGA hGC hCA
                    go_wp2_with fail
                    go_roundw
                    case rel => exact ⟨2, by omega, by go_num, HGG.out⟩
                    case measure => simp [intOf]
        · obtain rfl : r = 2 := by omega
          have HGG := Lib.hid (HX.out.2.trans g0)
          clear g0
          rw [show ((2 : Nat) : Int) = 2 from rfl]
          go_wp2_with fail
          go_ret
          exact ⟨rfl, HGG.out⟩
theorem walk_LineTorn (a0 a1 : ByteArray) (a2 : List Int) (w0 : a0.size ≤ maxLen) (x0 : a0.size ≤ reachBytes) (w1 : a1.size ≤ maxLen) (x1 : a1.size ≤ reachBytes) (l2 : a2.length = 2) (w2 : ∀ x ∈ a2, (Lit.int .u8 x).wf = true) (w : World) :
    Calls Try.prog 9 #[.string a0, .string a1, .agg (a2.map (Value.int .u8)).toArray] w fun e w' => e = .returned (.bool true) ∧ Below w.heap.size w w' := by
  match a2, l2, w2 with
  | [x, y], _, w2 =>
    obtain ⟨p, rfl, hp⟩ := natU8 (w2 x (by simp))
    obtain ⟨q, rfl, hq⟩ := natU8 (w2 y (by simp))
    exact (torn_law a0 a1 p q w hp hq (Nat.le_trans x0 (by decide)) (Nat.le_trans x1 (by decide))).mono fun _ _ q => ⟨q.1, q.2.below0⟩

end Go.Proofs.Ytphaaebbofgdnaa
