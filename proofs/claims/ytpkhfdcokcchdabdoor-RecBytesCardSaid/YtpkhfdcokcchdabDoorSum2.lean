/-
  The reference's bits and number.
-/
import Derived.Test.YtpkhfdcokcchdabDoorSum
import Derived.Test.YtpkhfdcokcchdabDoorRefA
namespace Go.Proofs.YtpkhfdcokcchdabDoor
open Go.RowKit

def numF (f : Nat → Bool) : Nat → Nat
  | 0 => 0
  | n + 1 => 2 * numF f n + (f n).toNat
theorem numF_lt (f : Nat → Bool) (n : Nat) : numF f n < 2 ^ n := by
  induction n with
  | zero => simp [numF]
  | succ n ih => unfold numF; have := bit_le (f n); rw [Nat.pow_succ]; omega
theorem numF_msb {w : Nat} (x : BitVec w) (f : Nat → Bool) (h : ∀ j, j < w → f j = x.getMsbD j) (n : Nat) (hn : n ≤ w) : numF f n = x.toNat / 2 ^ (w - n) := by
  induction n with
  | zero => rw [Nat.sub_zero, Nat.div_eq_of_lt x.isLt]; rfl
  | succ n ih =>
    unfold numF
    rw [ih (by omega), h n (by omega), BitVec.getMsbD]
    have e : w - n = (w - (n + 1)) + 1 := by omega
    rw [e, Nat.pow_succ, ← Nat.div_div_eq_div_mul]
    have hb : x.getLsbD (w - 1 - n) = x.toNat.testBit (w - (n + 1)) := by
      rw [BitVec.getLsbD, show w - 1 - n = w - (n + 1) by omega]
    rw [hb, decide_eq_true (show n < w by omega), Bool.true_and, Nat.testBit_eq_decide_div_mod_eq]
    generalize x.toNat / 2 ^ (w - (n + 1)) = q
    by_cases c : q % 2 = 1
    · simp [c]; omega
    · simp [c]; omega
theorem numF_all {w : Nat} (x : BitVec w) (f : Nat → Bool) (h : ∀ j, j < w → f j = x.getMsbD j) : numF f w = x.toNat := by
  rw [numF_msb x f h w (Nat.le_refl _)]; simp
theorem field1 (u : UInt8) (a : Nat) (h : a ≤ 7) : fieldN u.toNat (a : Int) 1 = (u.toNat.testBit a).toNat := by
  have hok : okF (a : Int) 1 := by unfold okF; omega
  have h1 := fieldN_testBit u.toNat a 1 hok 0
  have h2 := fieldN_lt u.toNat a 1 hok
  simp only [Int.toNat_one, Int.toNat_natCast, Nat.add_zero] at h1 h2
  rw [Nat.testBit_zero] at h1
  generalize fieldN u.toNat (a : Int) 1 = q at *
  simp at h1
  rw [← h1]
  have : q = 0 ∨ q = 1 := by omega
  rcases this with rfl | rfl <;> rfl

set_option maxHeartbeats 1000000 in
theorem rnumber (n g c : Nat) (f : Nat → Bool) (xs : List Value) (w : World) (n2 : n ≤ 63) (hown : w.ownsRow 0 3 1 (.slice (some ⟨g, 0, none⟩) n c) n xs) (hreg : RegIs xs n f) :
    Calls Tryd.prog 41 #[.slice (some ⟨g, 0, none⟩) n c] w fun e w' => e = .returned (.int .u64 (numF f n : Nat)) ∧ w = w' := by
  have HO := Lib.hid (And.intro hown hreg)
  clear hown hreg
  go_enter Tryd.func41, Tryd.ntmps41
  go_wp2
  go_loop [3, 4] (fun v i => ∃ k : Nat, k ≤ n ∧ i = .int .i64 k ∧ v = .int .u64 (numF f k : Nat)) (fun _ i => n - (intOf i).toNat)
  case atStart => exact ⟨0, by omega, rfl, rfl⟩
  case round =>
    obtain ⟨k, hk, rfl, rfl⟩ := hrel
    by_cases hlt : k < n
    · have hc : w.cell? ⟨g, k, none⟩ = some (.int .i64 ((f k).toNat : Int)) := by
        rw [HO.out.1.cellAt k (by omega)]; exact HO.out.2.2 k hlt
      have h1 := bit_le (f k)
      have h2 := numF_lt f k
      have h3 : (2 : Nat) ^ k ≤ 2 ^ 62 := Nat.pow_le_pow_right (by omega) (by omega)
      have hs : numF f (k + 1) = 2 * numF f k + (f k).toNat := rfl
      have HS := Lib.hid hs
      clear hs
      generalize numF f k = a at *
      have h4 : a < 4611686018427387904 := by omega
      clear h2 h3
      go_wp2
      go_round
      case rel => exact ⟨k + 1, by omega, by go_num, by rw [HS.out]; push_cast; rfl⟩
      case measure => simp [intOf]; omega
    · obtain rfl : k = n := by omega
      go_wp2
      go_ret
      exact ⟨rfl, rfl⟩

def bitsD (low : Bool) (u : UInt8) : List Bool := (List.range 8).map fun k => u.toNat.testBit (if low = true then k else 7 - k)
theorem bitsD_length (low : Bool) (u : UInt8) : (bitsD low u).length = 8 := by simp [bitsD]
theorem bitsD_at (low : Bool) (u : UInt8) (k : Nat) (h : k < 8) : (bitsD low u)[k]? = some (u.toNat.testBit (if low = true then k else 7 - k)) := by
  simp [bitsD, h]
def preB (low : Bool) (l : List UInt8) : List Bool := l.flatMap (bitsD low)
theorem preB_length (low : Bool) (l : List UInt8) : (preB low l).length = 8 * l.length := by
  induction l with
  | nil => rfl
  | cons u l ih => unfold preB at ih ⊢; rw [List.flatMap_cons, List.length_append, bitsD_length, ih, List.length_cons]; omega
theorem preB_next (low : Bool) (l : List UInt8) (i : Nat) (h : i < l.length) : preB low (l.take (i + 1)) = preB low (l.take i) ++ bitsD low l[i] := by
  unfold preB
  rw [List.take_add_one, List.getElem?_eq_getElem h, List.flatMap_append]
  congr 1
theorem wrap_small (n : Nat) (h : n ≤ 100000) : IntKind.i64.wrap (n : Int) = n := IntWalk.i64_in _ (by omega)

set_option maxRecDepth 100000 in
set_option maxHeartbeats 2000000 in
theorem rbits (s : ByteArray) (low : Bool) (w : World) (hs : s.size ≤ 2000) :
    Calls Tryd.prog 39 #[.string s, .bool low] w fun e w' => ∃ v : Value, e = .returned v ∧ w'.ownsRow w.heap.size 3 1 v (8 * s.size) ((preB low s.data.toList).map bv) ∧ Below w.heap.size w w' := by
  obtain ⟨i0, hi, hz0, hz1, hz2⟩ := info_parts infoInt
  have hsl : s.data.toList.length = s.size := by rw [Array.length_toList]; rfl
  have HSL := Lib.hid hsl
  clear hsl
  go_enter Tryd.func39, Tryd.ntmps39
  go_wp2
  go_loopw [5, 6] (fun v i wr => ∃ k : Nat, k ≤ s.size ∧ i = .int .i64 k ∧ wr.ownsRow w.heap.size 3 1 v (8 * k) ((preB low (s.data.toList.take k)).map bv) ∧ Below w.heap.size w wr) (fun _ i _ => s.size - (intOf i).toNat)
  case atStart => exact ⟨0, by omega, rfl, World.ownsRow_nil _ _ _ _, Below.refl _ _⟩
  case round =>
    obtain ⟨i, hk, rfl, hown, B1⟩ := hrel
    by_cases hlt : i < s.size
    · obtain ⟨u, hu⟩ : ∃ u, s[i] = u := ⟨_, rfl⟩
      have hnx : preB low (s.data.toList.take (i + 1)) = preB low (s.data.toList.take i) ++ bitsD low u := by
        rw [preB_next low _ i (by rw [HSL.out]; exact hlt), ← hu]; rfl
      have HNX := Lib.hid hnx
      clear hnx
      have hpl : (preB low (s.data.toList.take i)).length = 8 * i := by rw [preB_length, List.length_take, HSL.out]; omega
      generalize preB low (s.data.toList.take i) = P at *
      go_wp2_with fail
      go_loopw [5, 7] (fun v j wr => ∃ k : Nat, k ≤ 8 ∧ j = .int .i64 k ∧ wr.ownsRow w.heap.size 3 1 v (8 * i + k) ((P ++ (bitsD low u).take k).map bv) ∧ Below w.heap.size w wr) (fun _ j _ => 8 - (intOf j).toNat)
      case atStart => exact ⟨0, by omega, rfl, by simpa using hown, B1⟩
      case round =>
        clear hown B1
        obtain ⟨k, hk8, rfl, hown, B1⟩ := hrel
        by_cases hlt2 : k < 8
        · obtain ⟨a, ha, ha7, hae⟩ : ∃ a : Nat, (a : Int) = (if low = true then (k : Int) else 7 - (k : Int)) ∧ a ≤ 7 ∧ a = (if low = true then k else 7 - k) := ⟨if low = true then k else 7 - k, by split <;> omega, by split <;> omega, rfl⟩
          have hbit := bitsD_at low u k hlt2
          rw [← hae] at hbit
          have hnx2 : P ++ (bitsD low u).take (k + 1) = (P ++ (bitsD low u).take k) ++ [u.toNat.testBit a] := by rw [List.take_add_one, hbit]; simp
          have hf1 := field1 u a ha7
          have hq := bit_le (u.toNat.testBit a)
          have hPl : (P ++ (bitsD low u).take k).length = 8 * i + k := by rw [List.length_append, List.length_take, bitsD_length, hpl]; omega
          generalize u.toNat.testBit a = p at *
          have HN2 := Lib.hid hnx2
          generalize P ++ (bitsD low u).take k = R at *
          have HF := Lib.hid hf1
          clear hnx2 hf1 hbit hae
          cases hlow : low
          · rw [hlow] at ha
            simp only [Bool.false_eq_true, if_false] at ha
            rw [hlow] at HN2
            subst hlow
            have hfl : fieldN u.toNat (7 - (k : Int)) 1 = p.toNat := by rw [← HF.out]; congr 1; omega
            have HFL := Lib.hid hfl
            clear hfl
            have hw0 : IntKind.u64.wrap (u.toNat : Int) = (u.toNat : Int) := by rw [IntKind.wrap_u64]; have := u.toNat_lt; omega
            go_wp2_with fail
            clear hw0
            have hw1 : IntKind.i64.wrap (p.toNat : Int) = (p.toNat : Int) := IntWalk.i64_in _ (by omega)
            refine (rfield_any u.toNat (7 - (k : Int)) 1 _ (by have := u.toNat_lt; omega)).mono ?_
            rintro e w2 ⟨rfl, rfl⟩
            rw [HFL.out]
            go_wp2_with (first
              | (at_builtin; refine wpList_append_own _ rfl _ _ 78 rfl w.heap.size 3 i0 (.int .i64 0) 1 8 Tryd.underlying78 hi hz0 hz1 hz2 rfl (by decide) _ _ _ rfl (hown.alloc _) ⟨wr.heap.size, 0, none⟩ 1 1 [bv p] rfl rfl ?c1 ?c2 ?c3 ?c4 ?c5 ?_))
            case c1 =>
              intro a u ha
              match a, ha with
              | 0, ha => simp at ha; subst ha; simp [Addr.add, bv]
            case c2 => intro u hu; simp at hu; subst hu; rfl
            case c3 => unfold maxLen; omega
            case c4 => omega
            case c5 => have := B1.size; simp; omega
            intro v' w3 hown3 hgrow3 _
            have RR := Lib.hid (And.intro (show w3.ownsRow w.heap.size 3 1 v' (8 * i + (k + 1)) ((P ++ List.take (k + 1) (bitsD false u)).map bv) by rw [HN2.out, List.map_append, ← Nat.add_assoc]; exact hown3)
              ((B1.alloc B1.size _).grown hgrow3 (by have := B1.size; simp; omega) (fun g hg => (hown.lt g hg).1)))
            clear hown3 hgrow3 hown B1
            go_wp2
            go_roundw
            case rel => exact ⟨k + 1, by omega, by go_num, RR.out.1, RR.out.2⟩
            case measure => simp [intOf]; omega
          · rw [hlow] at ha
            simp only [if_true] at ha
            rw [hlow] at HN2
            subst hlow
            have hfl : fieldN u.toNat (k : Int) 1 = p.toNat := by rw [← HF.out]; congr 1; omega
            have HFL := Lib.hid hfl
            clear hfl
            have hw0 : IntKind.u64.wrap (u.toNat : Int) = (u.toNat : Int) := by rw [IntKind.wrap_u64]; have := u.toNat_lt; omega
            go_wp2_with fail
            clear hw0
            have hw1 : IntKind.i64.wrap (p.toNat : Int) = (p.toNat : Int) := IntWalk.i64_in _ (by omega)
            refine (rfield_any u.toNat (k : Int) 1 _ (by have := u.toNat_lt; omega)).mono ?_
            rintro e w2 ⟨rfl, rfl⟩
            rw [HFL.out]
            go_wp2_with (first
              | (at_builtin; refine wpList_append_own _ rfl _ _ 78 rfl w.heap.size 3 i0 (.int .i64 0) 1 8 Tryd.underlying78 hi hz0 hz1 hz2 rfl (by decide) _ _ _ rfl (hown.alloc _) ⟨wr.heap.size, 0, none⟩ 1 1 [bv p] rfl rfl ?c1 ?c2 ?c3 ?c4 ?c5 ?_))
            case c1 =>
              intro a u ha
              match a, ha with
              | 0, ha => simp at ha; subst ha; simp [Addr.add, bv]
            case c2 => intro u hu; simp at hu; subst hu; rfl
            case c3 => unfold maxLen; omega
            case c4 => omega
            case c5 => have := B1.size; simp; omega
            intro v' w3 hown3 hgrow3 _
            have RR := Lib.hid (And.intro (show w3.ownsRow w.heap.size 3 1 v' (8 * i + (k + 1)) ((P ++ List.take (k + 1) (bitsD true u)).map bv) by rw [HN2.out, List.map_append, ← Nat.add_assoc]; exact hown3)
              ((B1.alloc B1.size _).grown hgrow3 (by have := B1.size; simp; omega) (fun g hg => (hown.lt g hg).1)))
            clear hown3 hgrow3 hown B1
            go_wp2
            go_roundw
            case rel => exact ⟨k + 1, by omega, by go_num, RR.out.1, RR.out.2⟩
            case measure => simp [intOf]; omega
        · obtain rfl : k = 8 := by omega
          have RR := Lib.hid (And.intro hown B1)
          clear hown B1
          go_wp2
          go_roundw
          case rel => exact ⟨i + 1, by omega, by go_num, by rw [HNX.out]; have := RR.out.1; rwa [List.take_of_length_le (by rw [bitsD_length]; omega)] at this, RR.out.2⟩
          case measure => simp [intOf]; omega
    · obtain rfl : i = s.size := by omega
      rw [List.take_of_length_le (by rw [HSL.out]; omega)] at hown
      have RR := Lib.hid (And.intro hown B1)
      clear hown B1
      go_wp2
      go_ret
      exact ⟨_, rfl, RR.out.1, RR.out.2⟩

end Go.Proofs.YtpkhfdcokcchdabDoor
