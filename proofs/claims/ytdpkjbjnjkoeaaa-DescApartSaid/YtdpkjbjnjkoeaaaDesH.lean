/-
  The walk of DescApart.
-/
import Derived.Test.YtdpkjbjnjkoeaaaDesG
namespace Go.Proofs.Ytdpkjbjnjkoeaaa
open Go.RowKit

def nT (t : Nat → Int × Int × Int) (j : Nat) : Nat := (fdL t j).length
theorem nT_succ (t : Nat → Int × Int × Int) (j : Nat) : nT t (j + 1) = nT t j + (if (t j).2.1 = 0 then 0 else 1) := by
  unfold nT
  rw [fdL_succ]
  split <;> simp
theorem nT_fill (t : Nat → Int × Int × Int) (i : Nat) (h : ∀ f, f < 16 → ((t f).2.1 ≠ 0 ↔ f < i)) : ∀ j, j ≤ 16 → nT t j = min i j := by
  intro j
  induction j with
  | zero => intro _; simp [nT, fdL]
  | succ j ih =>
    intro hj
    rw [nT_succ, ih (by omega)]
    have := h j (by omega)
    by_cases c : (t j).2.1 = 0
    · rw [if_pos c]
      have : ¬ j < i := fun q => (this.2 q) c
      omega
    · rw [if_neg c]
      have := this.1 c
      omega
theorem nT_drop (D : Nat → Nat → Int × Int × Int) (c f : Nat) (h : (D c f).2.1 ≠ 0) : ∀ j, nT (updD D c f (0, 0, 0) c) j + (if f < j then 1 else 0) = nT (D c) j := by
  intro j
  induction j with
  | zero => simp [nT, fdL]
  | succ j ih =>
    rw [nT_succ, nT_succ]
    by_cases e : j = f
    · subst e
      rw [updD_self, if_pos rfl, if_neg h, if_pos (by omega)]
      rw [if_neg (by omega)] at ih
      omega
    · rw [updD_ne D c f c j _ (fun q => e q.2)]
      by_cases q : f < j
      · have e1 : (if f < j + 1 then 1 else 0) = 1 := if_pos (by omega)
        rw [if_pos q] at ih
        rw [e1]
        omega
      · have e1 : (if f < j + 1 then 1 else 0) = 0 := if_neg (by omega)
        rw [if_neg q] at ih
        rw [e1]
        omega
theorem nT_one (t : Nat → Int × Int × Int) (h0 : (t 0).2.1 ≠ 0) (h : ∀ f, f ≠ 0 → (t f).2.1 = 0) : ∀ j, nT t (j + 1) = 1 := by
  intro j
  induction j with
  | zero => rw [nT_succ, if_neg h0]; simp [nT, fdL]
  | succ j ih => rw [nT_succ, ih, if_pos (h _ (by omega))]
theorem nT_le (t : Nat → Int × Int × Int) (j : Nat) : nT t j ≤ j := fdL_len t j

/-- What stands between two rounds. -/
structure Apt (w : World) (bt br : Nat) (D : Nat → Nat → Int × Int × Int) (W : World) : Prop where
  tabs : Tabs W bt br 2 D
  gr : Gr [] w W
  b1 : w.heap.size ≤ bt
  b2 : w.heap.size ≤ br
theorem Apt.step {w W W1 : World} {bt br : Nat} {D D' : Nat → Nat → Int × Int × Int} (h : Apt w bt br D W) (T : Tabs W1 bt br 2 D') (G : Gr [br] W W1) : Apt w bt br D' W1 :=
  ⟨T, h.gr.nextN G (fun x hx => by simp at hx; subst hx; exact .inr h.b2), h.b1, h.b2⟩
theorem Apt.same {w W W1 : World} {bt br : Nat} {D : Nat → Nat → Int × Int × Int} (h : Apt w bt br D W) (G : Gr [] W W1) : Apt w bt br D W1 := ⟨h.tabs.gr0 G, h.gr.next0 G, h.b1, h.b2⟩
def FillIs (D : Nat → Nat → Int × Int × Int) (i : Nat) : Prop := (∀ f, f < 16 → ((D 0 f).2.1 ≠ 0 ↔ f < i)) ∧ ∀ f, D 1 f = (0, 0, 0)
def OneIs (D : Nat → Nat → Int × Int × Int) : Prop := D 1 0 = (100, 2, 0) ∧ ∀ f, f ≠ 0 → D 1 f = (0, 0, 0)
theorem FillIs.next {D : Nat → Nat → Int × Int × Int} {i : Nat} (h : FillIs D i) (_hi : i < 16) (x : Int) : FillIs (updD D 0 i (x, 1, 0)) (i + 1) := by
  refine ⟨fun f hf => ?_, fun f => ?_⟩
  · by_cases e : f = i
    · subst e; rw [updD_self]; simp
    · rw [updD_ne D 0 i 0 f _ (fun q => e q.2), h.1 f hf]; omega
  · rw [updD_ne D 0 i 1 f _ (fun q => by omega)]; exact h.2 f
theorem FillIs.full {D : Nat → Nat → Int × Int × Int} {i : Nat} (h : FillIs D i) (hi : 16 ≤ i) : FillIs D (i + 1) := ⟨fun f hf => by rw [h.1 f hf]; omega, h.2⟩
theorem FillIs.one {D : Nat → Nat → Int × Int × Int} {i : Nat} (h : FillIs D i) : OneIs (updD D 1 0 (100, 2, 0)) := ⟨updD_self _ _ _ _, fun f hf => by rw [updD_ne D 1 0 1 f _ (fun q => hf q.2)]; exact h.2 f⟩
theorem FillIs.num {D : Nat → Nat → Int × Int × Int} {i : Nat} (h : FillIs D i) : nT (updD D 1 0 (100, 2, 0) 0) 16 = min i 16 := by
  refine nT_fill _ i (fun f hf => ?_) 16 (Nat.le_refl _)
  rw [updD_ne D 1 0 0 f _ (fun q => by omega)]
  exact h.1 f hf
theorem OneIs.drop {D : Nat → Nat → Int × Int × Int} (h : OneIs D) (f : Nat) (v : Int × Int × Int) : OneIs (updD D 0 f v) := by
  refine ⟨?_, fun g hg => ?_⟩
  · rw [updD_ne D 0 f 1 0 _ (fun q => by omega)]; exact h.1
  · rw [updD_ne D 0 f 1 g _ (fun q => by omega)]; exact h.2 g hg
theorem own_shape {w : World} {base : Nat} {e : TypeId} {size n : Nat} {v : Value} {xs : List Value} (h : w.ownsRow base e size v n xs) : ∃ ao cap, v = .slice ao n cap := by
  rcases h.2 with ⟨rfl, rfl⟩ | ⟨g, cap, cur, rfl, _⟩
  · exact ⟨_, _, rfl⟩
  · exact ⟨_, _, rfl⟩
theorem list_len (bt br n c : Nat) (D : Nat → Nat → Int × Int × Int) (w : World) (h : Tabs w bt br n D) (hc : c < n) :
    Calls Try.prog 31 #[.pointer (some ⟨bt, 0, none⟩), .int .i64 c] w fun e w' => ∃ ao cap, e = .returned (.slice ao (nT (D c) 16) cap) ∧ Gr [] w w' :=
  (list_ok bt br n c D w h hc).mono fun _ _ ⟨_, he, ho, hg⟩ => by
    obtain ⟨ao, cap, hv⟩ := own_shape ho
    exact ⟨ao, cap, by rw [he, hv]; rfl, hg⟩

set_option maxRecDepth 100000 in
set_option maxHeartbeats 4000000 in
theorem apart_some (a0 : Int) (h0 : 0 ≤ a0 ∧ a0 ≤ 255) (b off cap : Nat) (xs : List Int) (w : World) (hx : ∀ x ∈ xs, 0 ≤ x ∧ x ≤ 255) (hpos : 0 < xs.length) (hcap : xs.length ≤ cap) (hmax : cap ≤ maxLen) (hlt : b < w.heap.size) (hcell : ∀ i x, xs[i]? = some x → w.cell? ⟨b, off + i, none⟩ = some (.int .u8 x)) :
    Calls Try.prog 7 #[.int .u8 a0, .slice (some ⟨b, off, none⟩) xs.length cap] w fun e w' => e = .returned (.bool true) ∧ Below w.heap.size w w' := by
  obtain ⟨M, hM⟩ : ∃ M, M = min xs.length 30 := ⟨_, rfl⟩
  have hmn := minIs Try.prog xs.length M 30 30 rfl hM
  have hM1 : M ≤ xs.length := by omega
  have hM2 : M ≤ 30 := by omega
  have HX := Lib.hid hx
  have HC := Lib.hid hcell
  unfold maxLen at hmax
  clear hx hcell hM
  obtain ⟨L, hL⟩ : ∃ L, xs.length = L := ⟨_, rfl⟩
  rw [hL] at hmn hpos hcap hM1 ⊢
  have HL := Lib.hid hL
  clear hL
  obtain ⟨k, hk, hk20⟩ : ∃ k : Nat, a0 % 20 = (k : Int) ∧ k < 20 := ⟨(a0 % 20).toNat, by omega, by omega⟩
  obtain ⟨left, hleft⟩ : ∃ l, l = min k 16 := ⟨_, rfl⟩
  have hmk := minIs Try.prog k left 16 16 rfl hleft
  have HLEFT := Lib.hid hleft
  clear hleft
  go_enter Try.func7, Try.ntmps7
  go_wp2_with fail
  refine (dnew_yes 2 _ (by omega) (by omega)).mono ?_
  rintro e w1 ⟨bt, br, rfl, T1, hbt, hbr, G1⟩
  go_wp2_with fail
  refine (wakes23_any _).mono ?_
  rintro e w2 ⟨rfl, G2⟩
  have A0 : Apt w bt br noneD w2 := ⟨T1.gr0 G2, G1.next0 G2, hbt, hbr⟩
  have F0 : FillIs noneD 0 := ⟨fun f _ => by simp [noneD], fun f => rfl⟩
  clear T1 G1 G2 hbt hbr
  go_wp2_with fail
  try rw [hk]
  clear hk
  go_loopw [37] (fun i wr => ∃ (j : Nat) (D : Nat → Nat → Int × Int × Int), j ≤ k ∧ i = .int .i64 j ∧ Apt w bt br D wr ∧ FillIs D j) (fun i _ => k - (intOf i).toNat)
  case atStart => exact ⟨0, noneD, by omega, rfl, A0, F0⟩
  case round =>
    clear A0 F0
    obtain ⟨j, D, hj, rfl, A1, F1⟩ := hrel
    by_cases hjk : j < k
    · by_cases hj16 : j < 16
      · have HAO := Lib.hid (fun W (T : Tabs W bt br 2 D) => add_ok bt br 2 0 j (100 + (j : Int)) 1 D W T (by omega) (by omega) (by omega) hj16 (by have := F1.1 j hj16; have q : ¬ j < j := (by omega); by_cases e : (D 0 j).2.1 = 0; exact e; exact absurd (this.1 e) q) (fun g hg => (F1.1 g (by omega)).2 hg))
        have HA := Lib.hid (And.intro A1 F1)
        clear A1 F1
        go_wp2_with fail
        refine (HAO.out _ HA.out.1.tabs).mono ?_
        rintro e w3 ⟨rfl, T3, g3⟩
        have RR := Lib.hid (And.intro (HA.out.1.step T3 g3) (HA.out.2.next hj16 (100 + (j : Int))))
        clear T3 g3 HA HAO
        go_wp2
        go_roundw
        case rel => exact ⟨j + 1, _, by omega, by go_num, RR.out.1, RR.out.2⟩
        case measure => simp [intOf]; omega
      · have HAF := Lib.hid (fun W (T : Tabs W bt br 2 D) => add_full bt br 2 0 (100 + (j : Int)) 1 D W T (by omega) (by omega) (by omega) (fun g hg => (F1.1 g hg).2 (by omega)))
        have hd : decide ((j : Int) < 16) = false := by simp; omega
        have HA := Lib.hid (And.intro A1 F1)
        clear A1 F1
        go_wp2_with fail
        refine (HAF.out _ HA.out.1.tabs).mono ?_
        rintro e w3 ⟨rfl, g3⟩
        have RR := Lib.hid (And.intro (HA.out.1.same g3) (HA.out.2.full (by omega)))
        clear g3 HA HAF
        go_wp2
        go_roundw
        case rel => exact ⟨j + 1, D, by omega, by go_num, RR.out.1, RR.out.2⟩
        case measure => simp [intOf]; omega
    · obtain rfl : j = k := by omega
      have HAO := Lib.hid (fun W (T : Tabs W bt br 2 D) => add_ok bt br 2 1 0 100 2 D W T (by omega) (by omega) (by omega) (by omega) (by rw [F1.2]) (fun g hg => by omega))
      have HA := Lib.hid (And.intro A1 F1)
      clear A1 F1
      go_wp2_with fail
      refine (HAO.out _ HA.out.1.tabs).mono ?_
      rintro e w3 ⟨rfl, T3, g3⟩
      have A3 := HA.out.1.step T3 g3
      have O3 := HA.out.2.one
      have N3 := HA.out.2.num
      rw [← HLEFT.out] at N3
      have hl16 : left ≤ 16 := by have := HLEFT.out; omega
      clear T3 g3 HA HAO
      obtain ⟨D3, hD3⟩ : ∃ D3, D3 = updD D 1 0 (100, 2, 0) := ⟨_, rfl⟩
      rw [← hD3] at A3 O3 N3
      clear hD3
      go_wp2_with fail
      go_loopw [12, 80] (fun l i wr => ∃ (k2 : Nat) (D : Nat → Nat → Int × Int × Int), k2 ≤ M ∧ i = .int .i64 k2 ∧ l = .int .i64 (nT (D 0) 16 : Nat) ∧ Apt w bt br D wr ∧ OneIs D) (fun _ i _ => M - (intOf i).toNat)
      case atStart => exact ⟨0, D3, by omega, rfl, by rw [N3], A3, O3⟩
      case round =>
        clear A3 O3 N3
        obtain ⟨k2, D, hk2, rfl, rfl, A1, O1⟩ := hrel
        have hle := nT_le (D 0) 16
        by_cases hkM : k2 < M
        · obtain ⟨x, hxk⟩ : ∃ x, xs[k2]? = some x := ⟨_, List.getElem?_eq_getElem (by have := HL.out; omega)⟩
          have hxb := HX.out x (List.mem_of_getElem? hxk)
          have hcl : wr.cell? ⟨b, off + k2, none⟩ = some (.int .u8 x) := by rw [A1.gr.cell0 hlt]; exact HC.out k2 x hxk
          obtain ⟨q, rfl⟩ := Int.eq_ofNat_of_zero_le hxb.1
          obtain ⟨fd, hfd, hfd2⟩ : ∃ fd : Nat, (q : Int) % 20 = (fd : Int) ∧ fd < 20 := ⟨q % 20, by omega, by omega⟩
          have hq : q < 256 := by omega
          clear hxk hxb
          by_cases hz : 16 ≤ fd ∨ (D 0 fd).2.1 = 0
          · have HGB := Lib.hid (fun W (T : Tabs W bt br 2 D) => close_err (.pointer (some ⟨bt, 0, none⟩)) (.int .i64 0) (.int .i64 fd) 19 W (by omega) (get_bad bt br 2 0 fd D W T (by omega) (by
              by_cases e : 16 ≤ fd
              · exact .inl (.inr (by omega))
              · rcases hz with hz | hz
                · exact absurd hz e
                · exact .inr ⟨by omega, by omega, by simpa using hz⟩)))
            have HA := Lib.hid (And.intro A1 O1)
            clear A1 O1 hz
            obtain ⟨S, hS⟩ : ∃ S, nT (D 0) 16 = S := ⟨_, rfl⟩
            rw [hS] at hle ⊢
            have HS := Lib.hid hS
            clear hS
            go_wp2_with fail
            refine (HGB.out _ HA.out.1.tabs).mono ?_
            rintro e w4 ⟨rfl, g4⟩
            have RR := Lib.hid (HA.out.1.same g4)
            clear g4 HGB hcl
            go_wp2
            go_roundw
            case rel => exact ⟨k2 + 1, D, by omega, by go_num, by rw [HS.out], RR.out, HA.out.2⟩
            case measure => simp [intOf]; omega
          · have hfd3 : fd < 16 := by omega
            have hnz : (D 0 fd).2.1 ≠ 0 := fun e => hz (.inr e)
            have HCO := Lib.hid (fun W (T : Tabs W bt br 2 D) => close_ok bt br 2 0 fd D W T (by omega) hfd3 hnz)
            have hdr := nT_drop D 0 fd hnz 16
            rw [if_pos hfd3] at hdr
            have HA := Lib.hid (And.intro A1 O1)
            clear A1 O1 hz hnz
            obtain ⟨S, hS⟩ : ∃ S, nT (updD D 0 fd (0, 0, 0) 0) 16 = S := ⟨_, rfl⟩
            rw [hS] at hdr
            have HS := Lib.hid hS
            rw [← hdr] at hle ⊢
            clear hS hdr
            go_wp2_with fail
            refine (HCO.out _ HA.out.1.tabs).mono ?_
            rintro e w4 ⟨rfl, T4, g4⟩
            have RR := Lib.hid (And.intro (HA.out.1.step T4 g4) (HA.out.2.drop fd (0, 0, 0)))
            clear T4 g4 HCO hcl
            go_wp2
            go_roundw
            case rel => exact ⟨k2 + 1, _, by omega, by go_num, by rw [HS.out] <;> go_num, RR.out.1, RR.out.2⟩
            case measure => simp [intOf]; omega
        · obtain rfl : k2 = M := by omega
          have HGO := Lib.hid (fun W (T : Tabs W bt br 2 D) => get_ok bt br 2 1 0 D W T (by omega) (by omega) (by rw [O1.1]; decide))
          have HN1 := Lib.hid (nT_one (D 1) (by rw [O1.1]; decide) (fun f hf => by rw [O1.2 f hf]) 15)
          have HO := Lib.hid O1
          obtain ⟨S, hS⟩ : ∃ S, nT (D 0) 16 = S := ⟨_, rfl⟩
          rw [hS] at hle ⊢
          have HS := Lib.hid hS
          have HA := Lib.hid A1
          clear hS A1 O1
          go_wp2_with fail
          refine (HGO.out _ HA.out.tabs).mono ?_
          rintro e w4 ⟨rfl, g4⟩
          rw [HO.out.1]
          have A5 := HA.out.same (g4.alloc (Obj.cells #[.int .i64 100, .int .i64 2, .int .i64 0] 53))
          clear g4 HA
          go_wp2_with fail
          generalize w4.alloc (Obj.cells #[.int .i64 100, .int .i64 2, .int .i64 0] 53) = w5 at *
          refine (list_len bt br 2 1 D _ A5.tabs (by omega)).mono ?_
          rintro e w6 ⟨ao1, cap1, rfl, g6⟩
          rw [HN1.out]
          have A6 := A5.same g6
          clear A5 g6
          go_wp2_with fail
          refine (list_len bt br 2 0 D _ A6.tabs (by omega)).mono ?_
          rintro e w7 ⟨ao2, cap2, rfl, g7⟩
          rw [HS.out]
          have A7 := Lib.hid (A6.same g7).gr.below0
          clear A6 g7
          go_wp2_with fail
          go_ret
          exact ⟨rfl, A7.out⟩

set_option maxRecDepth 100000 in
set_option maxHeartbeats 4000000 in
theorem apart_none (a0 : Int) (h0 : 0 ≤ a0 ∧ a0 ≤ 255) (ao : Option Addr) (cap : Nat) (w : World) (hn : ao = none → cap = 0) (hmax : cap ≤ maxLen) :
    Calls Try.prog 7 #[.int .u8 a0, .slice ao 0 cap] w fun e w' => e = .returned (.bool true) ∧ Below w.heap.size w w' := by
  have hmn := minIs Try.prog 0 0 30 30 rfl rfl
  unfold maxLen at hmax
  have HN := Lib.hid hn
  clear hn
  cases ao with
  | none =>
    obtain rfl := HN.out rfl
    obtain ⟨k, hk, hk20⟩ : ∃ k : Nat, a0 % 20 = (k : Int) ∧ k < 20 := ⟨(a0 % 20).toNat, by omega, by omega⟩
    obtain ⟨left, hleft⟩ : ∃ l, l = min k 16 := ⟨_, rfl⟩
    have hmk := minIs Try.prog k left 16 16 rfl hleft
    have HLEFT := Lib.hid hleft
    clear hleft
    go_enter Try.func7, Try.ntmps7
    go_wp2_with fail
    refine (dnew_yes 2 _ (by omega) (by omega)).mono ?_
    rintro e w1 ⟨bt, br, rfl, T1, hbt, hbr, G1⟩
    go_wp2_with fail
    refine (wakes23_any _).mono ?_
    rintro e w2 ⟨rfl, G2⟩
    have A0 : Apt w bt br noneD w2 := ⟨T1.gr0 G2, G1.next0 G2, hbt, hbr⟩
    have F0 : FillIs noneD 0 := ⟨fun f _ => by simp [noneD], fun f => rfl⟩
    clear T1 G1 G2 hbt hbr
    go_wp2_with fail
    try rw [hk]
    clear hk
    go_loopw [37] (fun i wr => ∃ (j : Nat) (D : Nat → Nat → Int × Int × Int), j ≤ k ∧ i = .int .i64 j ∧ Apt w bt br D wr ∧ FillIs D j) (fun i _ => k - (intOf i).toNat)
    case atStart => exact ⟨0, noneD, by omega, rfl, A0, F0⟩
    case round =>
      clear A0 F0
      obtain ⟨j, D, hj, rfl, A1, F1⟩ := hrel
      by_cases hjk : j < k
      · by_cases hj16 : j < 16
        · have HAO := Lib.hid (fun W (T : Tabs W bt br 2 D) => add_ok bt br 2 0 j (100 + (j : Int)) 1 D W T (by omega) (by omega) (by omega) hj16 (by have := F1.1 j hj16; have q : ¬ j < j := (by omega); by_cases e : (D 0 j).2.1 = 0; exact e; exact absurd (this.1 e) q) (fun g hg => (F1.1 g (by omega)).2 hg))
          have HA := Lib.hid (And.intro A1 F1)
          clear A1 F1
          go_wp2_with fail
          refine (HAO.out _ HA.out.1.tabs).mono ?_
          rintro e w3 ⟨rfl, T3, g3⟩
          have RR := Lib.hid (And.intro (HA.out.1.step T3 g3) (HA.out.2.next hj16 (100 + (j : Int))))
          clear T3 g3 HA HAO
          go_wp2
          go_roundw
          case rel => exact ⟨j + 1, _, by omega, by go_num, RR.out.1, RR.out.2⟩
          case measure => simp [intOf]; omega
        · have HAF := Lib.hid (fun W (T : Tabs W bt br 2 D) => add_full bt br 2 0 (100 + (j : Int)) 1 D W T (by omega) (by omega) (by omega) (fun g hg => (F1.1 g hg).2 (by omega)))
          have hd : decide ((j : Int) < 16) = false := by simp; omega
          have HA := Lib.hid (And.intro A1 F1)
          clear A1 F1
          go_wp2_with fail
          refine (HAF.out _ HA.out.1.tabs).mono ?_
          rintro e w3 ⟨rfl, g3⟩
          have RR := Lib.hid (And.intro (HA.out.1.same g3) (HA.out.2.full (by omega)))
          clear g3 HA HAF
          go_wp2
          go_roundw
          case rel => exact ⟨j + 1, D, by omega, by go_num, RR.out.1, RR.out.2⟩
          case measure => simp [intOf]; omega
      · obtain rfl : j = k := by omega
        have HAO := Lib.hid (fun W (T : Tabs W bt br 2 D) => add_ok bt br 2 1 0 100 2 D W T (by omega) (by omega) (by omega) (by omega) (by rw [F1.2]) (fun g hg => by omega))
        have HA := Lib.hid (And.intro A1 F1)
        clear A1 F1
        go_wp2_with fail
        refine (HAO.out _ HA.out.1.tabs).mono ?_
        rintro e w3 ⟨rfl, T3, g3⟩
        have A3 := HA.out.1.step T3 g3
        have O3 := HA.out.2.one
        have N3 := HA.out.2.num
        rw [← HLEFT.out] at N3
        have hl16 : left ≤ 16 := by have := HLEFT.out; omega
        clear T3 g3 HA HAO
        obtain ⟨D3, hD3⟩ : ∃ D3, D3 = updD D 1 0 (100, 2, 0) := ⟨_, rfl⟩
        rw [← hD3] at A3 O3 N3
        clear hD3
        go_wp2_with fail
        refine wp_loop_rounds 1 ?_
        rw [rounds_succ]
        rw [← N3]
        have hle := nT_le (D3 0) 16
        clear N3
        have HGO := Lib.hid (fun W (T : Tabs W bt br 2 D3) => get_ok bt br 2 1 0 D3 W T (by omega) (by omega) (by rw [O3.1]; decide))
        have HN1 := Lib.hid (nT_one (D3 1) (by rw [O3.1]; decide) (fun f hf => by rw [O3.2 f hf]) 15)
        have HO := Lib.hid O3
        obtain ⟨S, hS⟩ : ∃ S, nT (D3 0) 16 = S := ⟨_, rfl⟩
        rw [hS] at hle ⊢
        have HS := Lib.hid hS
        have HA := Lib.hid A3
        clear hS A3 O3
        go_wp2_with fail
        refine (HGO.out _ HA.out.tabs).mono ?_
        rintro e w4 ⟨rfl, g4⟩
        rw [HO.out.1]
        have A5 := HA.out.same (g4.alloc (Obj.cells #[.int .i64 100, .int .i64 2, .int .i64 0] 53))
        clear g4 HA
        go_wp2_with fail
        generalize w4.alloc (Obj.cells #[.int .i64 100, .int .i64 2, .int .i64 0] 53) = w5 at *
        refine (list_len bt br 2 1 D3 _ A5.tabs (by omega)).mono ?_
        rintro e w6 ⟨ao1, cap1, rfl, g6⟩
        rw [HN1.out]
        have A6 := A5.same g6
        clear A5 g6
        go_wp2_with fail
        refine (list_len bt br 2 0 D3 _ A6.tabs (by omega)).mono ?_
        rintro e w7 ⟨ao2, cap2, rfl, g7⟩
        rw [HS.out]
        have A7 := Lib.hid (A6.same g7).gr.below0
        clear A6 g7
        go_wp2_with fail
        go_ret
        exact ⟨rfl, A7.out⟩
  | some a =>
    clear HN
    obtain ⟨k, hk, hk20⟩ : ∃ k : Nat, a0 % 20 = (k : Int) ∧ k < 20 := ⟨(a0 % 20).toNat, by omega, by omega⟩
    obtain ⟨left, hleft⟩ : ∃ l, l = min k 16 := ⟨_, rfl⟩
    have hmk := minIs Try.prog k left 16 16 rfl hleft
    have HLEFT := Lib.hid hleft
    clear hleft
    go_enter Try.func7, Try.ntmps7
    go_wp2_with fail
    refine (dnew_yes 2 _ (by omega) (by omega)).mono ?_
    rintro e w1 ⟨bt, br, rfl, T1, hbt, hbr, G1⟩
    go_wp2_with fail
    refine (wakes23_any _).mono ?_
    rintro e w2 ⟨rfl, G2⟩
    have A0 : Apt w bt br noneD w2 := ⟨T1.gr0 G2, G1.next0 G2, hbt, hbr⟩
    have F0 : FillIs noneD 0 := ⟨fun f _ => by simp [noneD], fun f => rfl⟩
    clear T1 G1 G2 hbt hbr
    go_wp2_with fail
    try rw [hk]
    clear hk
    go_loopw [37] (fun i wr => ∃ (j : Nat) (D : Nat → Nat → Int × Int × Int), j ≤ k ∧ i = .int .i64 j ∧ Apt w bt br D wr ∧ FillIs D j) (fun i _ => k - (intOf i).toNat)
    case atStart => exact ⟨0, noneD, by omega, rfl, A0, F0⟩
    case round =>
      clear A0 F0
      obtain ⟨j, D, hj, rfl, A1, F1⟩ := hrel
      by_cases hjk : j < k
      · by_cases hj16 : j < 16
        · have HAO := Lib.hid (fun W (T : Tabs W bt br 2 D) => add_ok bt br 2 0 j (100 + (j : Int)) 1 D W T (by omega) (by omega) (by omega) hj16 (by have := F1.1 j hj16; have q : ¬ j < j := (by omega); by_cases e : (D 0 j).2.1 = 0; exact e; exact absurd (this.1 e) q) (fun g hg => (F1.1 g (by omega)).2 hg))
          have HA := Lib.hid (And.intro A1 F1)
          clear A1 F1
          go_wp2_with fail
          refine (HAO.out _ HA.out.1.tabs).mono ?_
          rintro e w3 ⟨rfl, T3, g3⟩
          have RR := Lib.hid (And.intro (HA.out.1.step T3 g3) (HA.out.2.next hj16 (100 + (j : Int))))
          clear T3 g3 HA HAO
          go_wp2
          go_roundw
          case rel => exact ⟨j + 1, _, by omega, by go_num, RR.out.1, RR.out.2⟩
          case measure => simp [intOf]; omega
        · have HAF := Lib.hid (fun W (T : Tabs W bt br 2 D) => add_full bt br 2 0 (100 + (j : Int)) 1 D W T (by omega) (by omega) (by omega) (fun g hg => (F1.1 g hg).2 (by omega)))
          have hd : decide ((j : Int) < 16) = false := by simp; omega
          have HA := Lib.hid (And.intro A1 F1)
          clear A1 F1
          go_wp2_with fail
          refine (HAF.out _ HA.out.1.tabs).mono ?_
          rintro e w3 ⟨rfl, g3⟩
          have RR := Lib.hid (And.intro (HA.out.1.same g3) (HA.out.2.full (by omega)))
          clear g3 HA HAF
          go_wp2
          go_roundw
          case rel => exact ⟨j + 1, D, by omega, by go_num, RR.out.1, RR.out.2⟩
          case measure => simp [intOf]; omega
      · obtain rfl : j = k := by omega
        have HAO := Lib.hid (fun W (T : Tabs W bt br 2 D) => add_ok bt br 2 1 0 100 2 D W T (by omega) (by omega) (by omega) (by omega) (by rw [F1.2]) (fun g hg => by omega))
        have HA := Lib.hid (And.intro A1 F1)
        clear A1 F1
        go_wp2_with fail
        refine (HAO.out _ HA.out.1.tabs).mono ?_
        rintro e w3 ⟨rfl, T3, g3⟩
        have A3 := HA.out.1.step T3 g3
        have O3 := HA.out.2.one
        have N3 := HA.out.2.num
        rw [← HLEFT.out] at N3
        have hl16 : left ≤ 16 := by have := HLEFT.out; omega
        clear T3 g3 HA HAO
        obtain ⟨D3, hD3⟩ : ∃ D3, D3 = updD D 1 0 (100, 2, 0) := ⟨_, rfl⟩
        rw [← hD3] at A3 O3 N3
        clear hD3
        go_wp2_with fail
        refine wp_loop_rounds 1 ?_
        rw [rounds_succ]
        rw [← N3]
        have hle := nT_le (D3 0) 16
        clear N3
        have HGO := Lib.hid (fun W (T : Tabs W bt br 2 D3) => get_ok bt br 2 1 0 D3 W T (by omega) (by omega) (by rw [O3.1]; decide))
        have HN1 := Lib.hid (nT_one (D3 1) (by rw [O3.1]; decide) (fun f hf => by rw [O3.2 f hf]) 15)
        have HO := Lib.hid O3
        obtain ⟨S, hS⟩ : ∃ S, nT (D3 0) 16 = S := ⟨_, rfl⟩
        rw [hS] at hle ⊢
        have HS := Lib.hid hS
        have HA := Lib.hid A3
        clear hS A3 O3
        go_wp2_with fail
        refine (HGO.out _ HA.out.tabs).mono ?_
        rintro e w4 ⟨rfl, g4⟩
        rw [HO.out.1]
        have A5 := HA.out.same (g4.alloc (Obj.cells #[.int .i64 100, .int .i64 2, .int .i64 0] 53))
        clear g4 HA
        go_wp2_with fail
        generalize w4.alloc (Obj.cells #[.int .i64 100, .int .i64 2, .int .i64 0] 53) = w5 at *
        refine (list_len bt br 2 1 D3 _ A5.tabs (by omega)).mono ?_
        rintro e w6 ⟨ao1, cap1, rfl, g6⟩
        rw [HN1.out]
        have A6 := A5.same g6
        clear A5 g6
        go_wp2_with fail
        refine (list_len bt br 2 0 D3 _ A6.tabs (by omega)).mono ?_
        rintro e w7 ⟨ao2, cap2, rfl, g7⟩
        rw [HS.out]
        have A7 := Lib.hid (A6.same g7).gr.below0
        clear A6 g7
        go_wp2_with fail
        go_ret
        exact ⟨rfl, A7.out⟩

theorem walk_DescApart (a0 : Int) (v : Value) (xs : List Int) {w : World} (w0 : (Lit.int .u8 a0).wf = true) (h : SlI .u8 w v xs) (hx : ∀ x ∈ xs, (Lit.int .u8 x).wf = true) :
    Calls Try.prog 7 #[.int .u8 a0, v] w fun e w' => e = .returned (.bool true) ∧ Below w.heap.size w w' := by
  rcases h with ⟨ao, cap, rfl, rfl, hn, hm⟩ | ⟨b, off, cap, rfl, h1, h2, h3, h4, h5⟩
  · exact apart_none a0 (bounds_u8 w0) ao cap w hn hm
  · exact apart_some a0 (bounds_u8 w0) b off cap xs w (fun x q => bounds_u8 (hx x q)) h1 h2 h3 h4 h5
end Go.Proofs.Ytdpkjbjnjkoeaaa
