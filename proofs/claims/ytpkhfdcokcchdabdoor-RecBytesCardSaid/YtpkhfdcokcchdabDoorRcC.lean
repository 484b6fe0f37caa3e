/-
  Layer 12: bodyOf.
-/
import Derived.Test.YtpkhfdcokcchdabDoorRcB
namespace Go.Proofs.YtpkhfdcokcchdabDoor
open Go.RowKit

/-- The body's bytes in the words of R. -/
def bodyR (R : List UInt8) (n : Nat) : List UInt8 := (List.range n).map fun i => bt R (8 * (i / 7) + i % 7)
theorem bodyR_len (R : List UInt8) (n : Nat) : (bodyR R n).length = n := by simp [bodyR]
def wR (R : List UInt8) (n : Nat) : Nat → Bool
  | 0 => true
  | k + 1 => wR R n k && unW R (8 * k) 32 (min 7 (n - 7 * k))
theorem wR_false {R : List UInt8} {n : Nat} {k m : Nat} (h : unW R (8 * k) 32 (min 7 (n - 7 * k)) = false) (hk : k < m) : wR R n m = false := by
  induction m with
  | zero => omega
  | succ m ih =>
    unfold wR
    by_cases e : k = m
    · subst e; rw [h, Bool.and_false]
    · rw [ih (by omega), Bool.false_and]
theorem bodyR_step (R : List UInt8) (n k : Nat) (h : 7 * k < n) (hl : 8 * k + 7 ≤ R.length) : (bodyR R n).take (7 * (k + 1)) = (bodyR R n).take (7 * k) ++ (R.drop (8 * k)).take (min 7 (n - 7 * k)) := by
  apply ext_bt
  · simp [bodyR_len]; omega
  · intro i hi
    rw [List.length_take, bodyR_len] at hi
    have l1 : ((bodyR R n).take (7 * k)).length = 7 * k := by rw [List.length_take, bodyR_len]; omega
    rw [bt_append, l1, bt_take, bt_take, bt_take, bt_drop, if_pos (by omega)]
    have hb : bt (bodyR R n) i = bt R (8 * (i / 7) + i % 7) := bt_map _ _ _ (by omega)
    by_cases c : i < 7 * k
    · rw [if_pos c, if_pos c]
    · rw [if_neg c, if_pos (by omega), hb]
      congr 1; omega
theorem unW_drop (R : List UInt8) (o p : Nat) (m : UInt8) (u : Nat) : unW (R.drop o) p m u = unW R (o + p) m u := by
  unfold unW
  rw [bt_drop, List.drop_drop]
  have e1 : o + (p + 7) = o + p + 7 := by omega
  have e2 : o + (p + u) = o + p + u := by omega
  rw [e1, e2]
theorem bld_len2 (b : Nat) (l : List UInt8) (n : Nat) (w : World) (h : Bld w b l) (hn : n = l.length) :
    Calls Tryd.prog 36 #[.pointer (some ⟨b, 0, none⟩)] w fun e w' => e = .returned (.int .i64 n) ∧ w = w' := by
  subst hn
  exact (bld_len b l w h).mono fun _ _ ⟨h1, h2⟩ => ⟨h1, h2.symm⟩
theorem unword_lit (s : ByteArray) (m : UInt8) (z : Int) (used : Nat) (w : World) (hz : z = (m.toNat : Int)) (h8 : 8 ≤ s.size) (hu : used ≤ 7) (hs : s.size ≤ maxLen) :
    Calls Tryd.prog 27 #[.string s, .int .u8 z, .int .i64 used] w fun e w' => e = .returned (.tuple #[.string (s.extract 0 used), .bool (unW s.data.toList 0 m used)]) ∧ ∃ n, w' = w.drewN n := by
  subst hz
  exact unword_any s m used w h8 hu hs
def strLen : Value → Nat
  | .string b => b.size
  | _ => 0
/-- What bodyOf answers. -/
def bodyV (R : List UInt8) (n : Nat) : Value := if wR R n (nW n) = true then .tuple #[.string ⟨(bodyR R n).toArray⟩, .bool true] else .tuple #[.string ⟨#[]⟩, .bool false]
theorem extL (s : ByteArray) (u : Nat) : (s.extract 0 u).data.toList = s.data.toList.take u := by rw [ext_toList]; rfl

set_option maxHeartbeats 4000000 in
set_option maxRecDepth 20000 in
theorem bodyOf_any (r : ByteArray) (n : Nat) (w : World) (hn : n ≤ 1024) (hr : r.size = 8 * nW n + 8) :
    Calls Tryd.prog 30 #[.string r, .int .i64 n] w fun e w' => e = .returned (bodyV r.data.toList n) ∧ Gr [] w w' := by
  obtain ⟨R, hR⟩ : ∃ R, R = r.data.toList := ⟨_, rfl⟩
  have hRl : R.length = 8 * nW n + 8 := by rw [hR, ← size_list, hr]
  have hnw : nW n = (n + 6) / 7 := rfl
  rw [← hR]
  have HR := Lib.hid hR
  clear hR hr
  obtain ⟨B, hB⟩ : ∃ b, w.heap.size = b := ⟨_, rfl⟩
  have HBB := Lib.hid hB
  have E0 : EncS w (w.alloc (.cells #[.pointer none, .slice none 0 0] 57)) B [] := by
    subst hB
    exact ⟨Bld.new w, (Below.refl _ _).alloc (Nat.le_refl _) _⟩
  clear hB
  go_enter Tryd.func30, Tryd.ntmps30
  go_wp2_with fail
  rw [HBB.out]
  go_loopw [0] (fun v wr => ∃ (k : Nat) (x : ByteArray), k ≤ nW n ∧ v = .string x ∧ Hid (x.data.toList = R.drop (8 * k)) ∧ Hid (wR R n k = true) ∧ EncS w wr B ((bodyR R n).take (7 * k))) (fun v _ => strLen v)
  case atStart => exact ⟨0, r, by omega, rfl, Lib.hid (by rw [HR.out]; rfl), Lib.hid rfl, E0⟩
  case round =>
    clear E0
    obtain ⟨k, x, hk, rfl, hx, hw, E⟩ := hrel
    have HE := Lib.hid E
    have HB2 := Lib.hid E.b
    clear E
    obtain ⟨m, hm⟩ : ∃ m, m = min (7 * k) n := ⟨_, rfl⟩
    have hml : m = ((bodyR R n).take (7 * k)).length := by rw [List.length_take, bodyR_len, hm]
    have HL := Lib.hid (bld_len2 B _ m wr HB2.out hml)
    have HM := Lib.hid hm
    clear hml
    have hxs : x.size = 8 * nW n + 8 - 8 * k := by rw [size_list, hx.out, List.length_drop, hRl]
    by_cases hkn : 7 * k < n
    · have hmn : m < n := by omega
      have hm7 : m = 7 * k := by omega
      obtain ⟨u, hu⟩ : ∃ u, u = min 7 (n - 7 * k) := ⟨_, rfl⟩
      have hu7 : u ≤ 7 := by omega
      have hmin := minAB Tryd.prog 7 ((n : Int) - (m : Int)) u (by omega)
      have hx8 : 8 ≤ x.size := by omega
      have hxm : x.size ≤ 2000 := by omega
      have HW := Lib.hid (unword_lit x 32 32 u wr rfl hx8 hu7 (by unfold maxLen; omega))
      have HU := Lib.hid hu
      have HM7 := Lib.hid hm7
      have HX := Lib.hid hxs
      have hkw : k < nW n := by omega
      clear hm hm7 hu hxs hnw
      obtain ⟨c, hc⟩ : ∃ c, c = unW x.data.toList 0 32 u := ⟨_, rfl⟩
      rw [← hc] at HW
      have HC := Lib.hid hc
      clear hc
      cases c with
      | false =>
        go_wp2_with fail
        refine HL.out.mono ?_
        rintro r w1 ⟨rfl, rfl⟩
        go_wp2_with fail
        refine HL.out.mono ?_
        rintro r w1 ⟨rfl, rfl⟩
        go_wp2_with fail
        refine HW.out.mono ?_
        rintro r w1 ⟨rfl, nq, rfl⟩
        go_wp2_with fail
        go_ret2
        refine ⟨?_, (Gr.ofBelow (by rw [HBB.out]; exact HE.out.g)).drewN nq⟩
        have : wR R n (nW n) = false := by
          have q := HC.out
          rw [hx.out, unW_drop, HU.out, Nat.add_zero] at q
          exact wR_false q.symm hkw
        unfold bodyV
        rw [this]
        rfl
      | true =>
        go_wp2_with fail
        refine HL.out.mono ?_
        rintro r w1 ⟨rfl, rfl⟩
        go_wp2_with fail
        refine HL.out.mono ?_
        rintro r w1 ⟨rfl, rfl⟩
        go_wp2_with fail
        refine HW.out.mono ?_
        rintro r w1 ⟨rfl, nq, rfl⟩
        have HE5 := Lib.hid (HE.out.gr0 ((Gr.refl [] wr).drewN nq) HBB.out)
        clear HE HB2 HL
        generalize wr.drewN nq = w2 at *
        go_wp2_with fail
        refine (bld_write B _ _ _ HE5.out.b (by rw [List.length_take, bodyR_len, ByteArray.size_extract]; omega)).mono ?_
        rintro r w6 ⟨rfl, b6, g6⟩
        have HE6 := Lib.hid (HE5.out.write b6 g6)
        clear b6 g6
        go_wp2_with fail
        go_roundw
        case rel =>
          refine ⟨k + 1, x.extract 8 x.size, by omega, rfl, Lib.hid ?_, Lib.hid ?_, ?_⟩
          · rw [ext_toList, hx.out, List.drop_drop, List.take_of_length_le (by rw [List.length_drop, HX.out]; omega)]
            congr 1
          · unfold wR
            have q := HC.out
            rw [hx.out, unW_drop, HU.out, Nat.add_zero] at q
            rw [hw.out, ← q]
            rfl
          · have q := HE6.out
            rw [extL, hx.out, HU.out] at q
            rw [bodyR_step R n k hkn (by omega)]
            exact q
        case measure =>
          simp [strLen]
          omega
    · have hkn2 : k = nW n := by omega
      have hmn : ¬ m < n := by omega
      have HKN := Lib.hid hkn2
      have HE2 := Lib.hid (show EncS w wr B (bodyR R n) by
        have q := HE.out
        rwa [List.take_of_length_le (by rw [bodyR_len]; omega)] at q)
      clear hm hxs hnw hkn2 HE
      go_wp2_with fail
      refine HL.out.mono ?_
      rintro r w1 ⟨rfl, rfl⟩
      go_wp2_with fail
      refine (bld_string B _ _ HE2.out.b).mono ?_
      rintro r w5 ⟨rfl, b5, g5⟩
      have HE5 := Lib.hid (HE2.out.write b5 g5)
      clear b5 g5
      go_wp2_with fail
      go_ret2
      refine ⟨?_, .ofBelow (by rw [HBB.out]; exact HE5.out.g)⟩
      unfold bodyV
      rw [← HKN.out, hw.out]
      rfl

end Go.Proofs.YtpkhfdcokcchdabDoor
