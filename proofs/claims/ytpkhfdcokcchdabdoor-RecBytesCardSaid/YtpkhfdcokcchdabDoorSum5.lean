/-
  The reference's Sum32.
-/
import Derived.Test.YtpkhfdcokcchdabDoorSum4
namespace Go.Proofs.YtpkhfdcokcchdabDoor
open Go.RowKit

def polyB (j : Nat) : Bool := (0x82F63B78#32).getLsbD j
def listB (f : Nat → Bool) (k : Nat) : List Value := ((List.range k).map f).map bv
theorem listB_next (f : Nat → Bool) (k : Nat) : listB f (k + 1) = listB f k ++ [bv (f k)] := by
  unfold listB
  rw [List.range_succ, List.map_append, List.map_append]; rfl
theorem listB_reg (f : Nat → Bool) (k : Nat) : RegIs (listB f k) k f := by
  refine ⟨by simp [listB], fun j hj => ?_⟩
  simp [listB, hj]
theorem polyF (k : Nat) (h : k ≤ 31) (w : World) : Calls Tryd.prog 38 #[.int .u64 2197175160, .int .i64 (k : Int), .int .i64 1] w fun e w' => e = .returned (.int .u64 ((polyB k).toNat : Int)) ∧ w = w' := by
  have h1 := rfield_any 2197175160 (k : Int) 1 w (by omega)
  rw [fieldN1 _ _ (by omega)] at h1
  exact h1

set_option maxRecDepth 100000 in
set_option maxHeartbeats 2000000 in
theorem rsum32 (s : ByteArray) (w : World) (h2 : s.size ≤ 2000) :
    Calls Tryd.prog 25 #[.string s] w fun e w' => e = .returned (.int .u64 (n32 (sum32 s.data.toList) : Nat)) ∧ Below w.heap.size w w' := by
  obtain ⟨i0, hi, hz0, hz1, hz2⟩ := info_parts infoInt
  go_enter Tryd.func25, Tryd.ntmps25
  go_wp2
  go_loopw [4, 5] (fun v i wr => ∃ k : Nat, k ≤ 32 ∧ i = .int .i64 k ∧ wr.ownsRow w.heap.size 3 1 v k (listB polyB k) ∧ Below w.heap.size w wr) (fun _ i _ => 32 - (intOf i).toNat)
  case atStart => exact ⟨0, by omega, rfl, World.ownsRow_nil _ _ _ _, Below.refl _ _⟩
  case round =>
    obtain ⟨k, hk8, rfl, hown, B1⟩ := hrel
    by_cases hlt2 : k < 32
    · have hnx := listB_next polyB k
      have HNX := Lib.hid hnx
      have HF := Lib.hid (polyF k (by omega))
      have hq := bit_le (polyB k)
      generalize polyB k = p at *
      clear hnx
      have hw1 : IntKind.i64.wrap (p.toNat : Int) = (p.toNat : Int) := IntWalk.i64_in _ (by omega)
      go_wp2_with fail
      refine (HF.out _).mono ?_
      rintro e w2 ⟨rfl, rfl⟩
      go_wp2_with (first
        | (at_builtin; refine wpList_append_own _ rfl _ _ 78 rfl w.heap.size 3 i0 (.int .i64 0) 1 8 Tryd.underlying78 hi hz0 hz1 hz2 rfl (by decide) _ _ _ rfl (hown.alloc _) ⟨wr.heap.size, 0, none⟩ 1 1 [bv p] rfl rfl ?c1 ?c2 ?c3 ?c4 ?c5 ?_))
      case c1 =>
        intro a u ha
        match a, ha with
        | 0, ha => simp at ha; subst ha; simp [Addr.add, bv]
      case c2 => intro u hu; simp at hu; subst hu; rfl
      case c3 => unfold maxLen; omega
      case c4 => omega
      case c5 => have := B1.size; simp; omega
      intro v' w3 hown3 hgrow3 _
      have RR := Lib.hid (And.intro (show w3.ownsRow w.heap.size 3 1 v' (k + 1) (listB polyB (k + 1)) by rw [HNX.out]; exact hown3)
        ((B1.alloc B1.size _).grown hgrow3 (by have := B1.size; simp; omega) (fun g hg => (hown.lt g hg).1)))
      clear hown3 hgrow3 hown B1
      go_wp2
      go_roundw
      case rel => exact ⟨k + 1, by omega, by go_num, RR.out.1, RR.out.2⟩
      case measure => simp [intOf]; omega
    · obtain rfl : k = 32 := by omega
      obtain ⟨g, cap, rfl, hgb⟩ := own_slice hown (by omega)
      have T1 := own_zero hown
      clear hown
      go_wp2_with fail
      refine (rbits s true _ h2).mono ?_
      rintro e w2 ⟨v, rfl, hown, hb2⟩
      have T2 := Lib.hid (own_keepS T1 hb2)
      have O2 := Lib.hid (own_zero hown)
      have B2 := below_next B1 hb2
      clear T1 B1 hb2 hown
      go_wp2_with fail
      refine (rsum_any 32 (8 * s.size) g cap v (preB true s.data.toList) polyB (listB polyB 32) _ (by omega) (by omega) (by rw [preB_length, Array.length_toList]; rfl) (by omega) O2.out T2.out (listB_reg polyB 32)).mono ?_
      rintro e w3 ⟨xs, rfl, hown3, hreg, hb3⟩
      have B3 := below_next B2 hb3
      obtain ⟨F, hF⟩ : ∃ F, F = (preB true s.data.toList).foldl (stF 32 polyB) (fun _ => true) := ⟨_, rfl⟩
      rw [← hF] at hreg
      have O3 := Lib.hid (And.intro (own_zero hown3) hreg)
      have HF := Lib.hid hF
      clear hF hreg hown3 hb3 B2 O2 T2
      generalize w2.heap.size = gr at *
      go_wp2_with fail
      go_loopw [9, 10] (fun v i wr => ∃ k : Nat, k ≤ 32 ∧ i = .int .i64 k ∧ wr.ownsRow w3.heap.size 3 1 v k (listB (fun j => !F (31 - j)) k) ∧ Below w3.heap.size w3 wr) (fun _ i _ => 32 - (intOf i).toNat)
      case atStart => exact ⟨0, by omega, rfl, World.ownsRow_nil _ _ _ _, Below.refl _ _⟩
      case round =>
        obtain ⟨k, hk8, rfl, hown, B1⟩ := hrel
        by_cases hlt2 : k < 32
        · have hnx := listB_next (fun j => !F (31 - j)) k
          have HNX := Lib.hid hnx
          clear hnx
          obtain ⟨m, hm, hm2⟩ : ∃ m : Nat, 31 - (k : Int) = (m : Int) ∧ m = 31 - k := ⟨31 - k, by omega, rfl⟩
          have hm3 : m < 32 := by omega
          have hc : wr.cell? ⟨gr, m, none⟩ = some (.int .i64 ((F m).toNat : Int)) := by
            rw [(own_keepS O3.out.1 B1).cellAt m (by omega)]; exact O3.out.2.2 m hm3
          have hq := bit_le (F m)
          have hneg : 1 - ((F m).toNat : Int) = ((!F m).toNat : Int) := by cases F m <;> rfl
          rw [← hm2] at HNX
          generalize (!F m) = p at *
          have HM := Lib.hid hm2
          clear hm2
          go_wp2_with (first
            | (at_builtin; refine wpList_append_own _ rfl _ _ 78 rfl w3.heap.size 3 i0 (.int .i64 0) 1 8 Tryd.underlying78 hi hz0 hz1 hz2 rfl (by decide) _ _ _ rfl (hown.alloc _) ⟨wr.heap.size, 0, none⟩ 1 1 [bv p] rfl rfl ?c1 ?c2 ?c3 ?c4 ?c5 ?_))
          case c1 =>
            intro a u ha
            match a, ha with
            | 0, ha => simp at ha; subst ha; simp [Addr.add, bv]
          case c2 => intro u hu; simp at hu; subst hu; rfl
          case c3 => unfold maxLen; omega
          case c4 => omega
          case c5 => have := B1.size; simp; omega
          intro v' w4 hown3 hgrow3 _
          have RR := Lib.hid (And.intro (show w4.ownsRow w3.heap.size 3 1 v' (k + 1) (listB (fun j => !F (31 - j)) (k + 1)) by rw [HNX.out]; exact hown3)
            ((B1.alloc B1.size _).grown hgrow3 (by have := B1.size; simp; omega) (fun g hg => (hown.lt g hg).1)))
          clear hown3 hgrow3 hown B1
          go_wp2
          go_roundw
          case rel => exact ⟨k + 1, by omega, by go_num, RR.out.1, RR.out.2⟩
          case measure => simp [intOf]; omega
        · obtain rfl : k = 32 := by omega
          obtain ⟨g2, cap2, rfl, hgb2⟩ := own_slice hown (by omega)
          have T4 := Lib.hid (own_zero hown)
          have B4 := below_next B3 B1
          clear hown B1 B3
          go_wp2_with fail
          refine (rnumber 32 g2 cap2 (fun j => !F (31 - j)) (listB (fun j => !F (31 - j)) 32) _ (by omega) T4.out (listB_reg _ 32)).mono ?_
          rintro e w5 ⟨rfl, rfl⟩
          rw [sum32_num _ F HF.out]
          go_wp2_with fail
          go_ret
          exact ⟨rfl, B4⟩

end Go.Proofs.YtpkhfdcokcchdabDoor
