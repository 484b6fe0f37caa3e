/-
  Layer 12: zero, unword, word; Right, size, Size.
-/
import Derived.Test.YtpkhfdcokcchdabDoorRcL
import Derived.Test.YtpkhfdcokcchdabDoorRecQ
import Derived.Test.YtpkhfdcokcchdabDoorCrc
import Derived.Test.YtpkhfdcokcchdabDoorBase
namespace Go.Proofs.YtpkhfdcokcchdabDoor
open Go.RowKit

theorem data_eq {a b : ByteArray} (h : a.data.toList = b.data.toList) : a = b := by
  apply ByteArray.ext
  exact Array.ext' h
theorem mk_toList (l : List UInt8) : (⟨l.toArray⟩ : ByteArray).data.toList = l := rfl
theorem ext_toList (s : ByteArray) (i j : Nat) : (s.extract i j).data.toList = (s.data.toList.drop i).take (j - i) := by
  rw [ByteArray.data_extract, Array.toList_extract, List.extract_eq_take_drop]
theorem app_toList (a b : ByteArray) : (a ++ b).data.toList = a.data.toList ++ b.data.toList := by
  rw [ByteArray.data_append, Array.toList_append]
theorem size_list (s : ByteArray) : s.size = s.data.toList.length := Lib.size_eq s
theorem is_empty (s : ByteArray) : s.toList.isEmpty = s.data.toList.isEmpty := by rw [ByteArray.toList_eq]
theorem trimB_empty (l : List UInt8) : (Lib.trimB l 0).isEmpty = zB l := by
  rw [Bool.eq_iff_iff, List.isEmpty_iff, trimB_nil]
  rfl
theorem zero_any (s : ByteArray) (w : World) (hs : s.size ≤ maxLen) :
    Calls Tryd.prog 29 #[.string s] w fun e w' => e = .returned (.bool (zB s.data.toList)) ∧ ∃ n, w' = w.drewN n := by
  have hT := Any.strings_Trim_one RcA.trim s 0 (by decide) w (by unfold maxLen at hs; omega)
  rw [RcA.fTrim] at hT
  have HT := Lib.hid hT
  clear hT
  go_enter Tryd.func29, Tryd.ntmps29
  go_wp2_with fail
  refine HT.out.mono ?_
  rintro e w1 ⟨rfl, h1⟩
  have H1 := Lib.hid h1
  clear h1
  go_wp2_with fail
  go_ret
  refine ⟨by rw [← trimB_empty]; rfl, ?_⟩
  rcases H1.out with h | h
  · exact ⟨0, h⟩
  · exact ⟨1, h⟩
theorem at7 (s : ByteArray) (h : 7 < s.size) : s[7] = bt s.data.toList 7 := by
  rw [bt_get _ _ (by rw [← size_list]; exact h)]
  rfl
theorem unword_no (s : ByteArray) (m : UInt8) (used : Nat) (w : World) (h8 : 8 ≤ s.size) (hu : used ≤ 7) (_hs : s.size ≤ maxLen) (hm : bt s.data.toList 7 ≠ m) :
    Calls Tryd.prog 27 #[.string s, .int .u8 m.toNat, .int .i64 used] w fun e w' => e = .returned (.tuple #[.string (s.extract 0 used), .bool false]) ∧ ∃ n, w' = w.drewN n := by
  have h7 : 7 < s.size := by omega
  have hi : (7 : Int) < (s.size : Int) := by omega
  have hu2 : (used : Int) ≤ (s.size : Int) := by omega
  have ht : ((s[7].toNat : Int) == (m.toNat : Int)) = false := by
    rw [at7 s h7]
    simp only [beq_eq_false_iff_ne, ne_eq]
    intro e
    exact hm (UInt8.toNat_inj.1 (by omega))
  clear hm
  go_enter Tryd.func27, Tryd.ntmps27
  go_wp2_with fail
  go_quiet (fail)
  go_wp2_with fail
  go_ret2
  exact ⟨rfl, nq, rfl⟩
theorem unword_yes (s : ByteArray) (m : UInt8) (used : Nat) (w : World) (h8 : 8 ≤ s.size) (hu : used ≤ 7) (hs : s.size ≤ maxLen) (hm : bt s.data.toList 7 = m) :
    Calls Tryd.prog 27 #[.string s, .int .u8 m.toNat, .int .i64 used] w fun e w' => e = .returned (.tuple #[.string (s.extract 0 used), .bool (zB ((s.data.toList.drop used).take (7 - used)))]) ∧ ∃ n, w' = w.drewN n := by
  have h7 : 7 < s.size := by omega
  have hi : (7 : Int) < (s.size : Int) := by omega
  have hu2 : (used : Int) ≤ (s.size : Int) := by omega
  have hu3 : (used : Int) ≤ 7 := by omega
  have hi2 : (7 : Int) ≤ (s.size : Int) := by omega
  have ht : ((s[7].toNat : Int) == (m.toNat : Int)) = true := by
    rw [at7 s h7, hm]
    simp
  clear hm
  have hz : ∀ W, Calls Tryd.prog 29 #[.string (s.extract used 7)] W fun e w' => e = .returned (.bool (zB ((s.data.toList.drop used).take (7 - used)))) ∧ ∃ n, w' = W.drewN n := fun W => by
    have := zero_any (s.extract used 7) W (by rw [ByteArray.size_extract]; omega)
    rwa [ext_toList] at this
  have HZ := Lib.hid hz
  clear hz
  unfold maxLen at hs
  go_enter Tryd.func27, Tryd.ntmps27
  go_wp2_with fail
  go_quiet ((go_at_call 29; exact Calls.quiet_of (HZ.out _)))
  go_wp2_with fail
  go_ret2
  exact ⟨rfl, nq, rfl⟩

theorem unword_any (s : ByteArray) (m : UInt8) (used : Nat) (w : World) (h8 : 8 ≤ s.size) (hu : used ≤ 7) (hs : s.size ≤ maxLen) :
    Calls Tryd.prog 27 #[.string s, .int .u8 m.toNat, .int .i64 used] w fun e w' => e = .returned (.tuple #[.string (s.extract 0 used), .bool (unW s.data.toList 0 m used)]) ∧ ∃ n, w' = w.drewN n := by
  by_cases hm : bt s.data.toList 7 = m
  · refine (unword_yes s m used w h8 hu hs hm).mono fun e w' ⟨he, hw⟩ => ⟨?_, hw⟩
    rw [he]
    unfold unW
    rw [Nat.zero_add, Nat.zero_add, hm]
    simp
  · refine (unword_no s m used w h8 hu hs hm).mono fun e w' ⟨he, hw⟩ => ⟨?_, hw⟩
    rw [he]
    unfold unW
    rw [Nat.zero_add]
    have : (bt s.data.toList 7 == m) = false := by simpa using hm
    rw [this]
    rfl

theorem word_bytes (s : ByteArray) (m : UInt8) : s ++ ⟨(List.replicate (7 - s.size) (0 : UInt8)).toArray⟩ ++ ⟨#[m]⟩ = ⟨(wordL s.data.toList m).toArray⟩ := by
  apply data_eq
  rw [app_toList, app_toList, mk_toList, mk_toList, size_list]
  unfold wordL
  rw [List.append_assoc]
/-- 'string([]byte{m})'. -/
theorem conv1 (m : UInt8) (W : World) (b : Nat) (h : W.cell? ⟨b, 0, none⟩ = some (.int .u8 (m.toNat : Int))) :
    (convert 47 9 (.slice (some ⟨b, 0, none⟩) 1 1)).run Tryd.prog W = .ok (.string ⟨#[m]⟩) W :=
  run_convert_bytes_back (P := Tryd.prog) W 47 9 5 ⟨b, 0, none⟩ 1 [m] Tryd.underlying47 Tryd.underlying5 Tryd.underlying9 (fun j hj => by
    obtain rfl : j = 0 := by simp at hj; omega
    exact h)

set_option maxHeartbeats 4000000 in
set_option maxRecDepth 100000 in
theorem word_any (s : ByteArray) (m : UInt8) (w : World) (hs : s.size ≤ 7) :
    Calls Tryd.prog 20 #[.string s, .int .u8 m.toNat] w fun e w' => e = .returned (.string ⟨(wordL s.data.toList m).toArray⟩) ∧ Gr [] w w' := by
  have hR := fun W => rep_any (7 - s.size) W (by omega)
  have hi : ((7 - s.size : Nat) : Int) = 7 - (s.size : Int) := by omega
  rw [hi] at hR
  have hw : IntKind.i64.wrap (7 - (s.size : Int)) = 7 - (s.size : Int) := IntWalk.i64_in _ (by omega)
  have HR := Lib.hid hR
  have HI := Lib.hid hi
  clear hR hi
  have hcv := conv1 m
  go_enter Tryd.func20, Tryd.ntmps20
  go_wp2_with fail
  go_region_with (first | (go_at_call 18; (with_reducible refine (HR.out _).mono ?_); rintro e w5 ⟨rfl, g5⟩; have hc5 := (bcellG g5).1; have H5 := Lib.hid g5; clear g5))
  all_goals
    go_wp2_with fail
    go_ret
    refine ⟨?_, ?_⟩
    · show Ending.returned (.string (s ++ ⟨(List.replicate (7 - s.size) (0 : UInt8)).toArray⟩ ++ ⟨#[m]⟩)) = _
      rw [word_bytes s m]
    · first
      | exact ((Gr.refl [] w).drew.nextB H5.out).alloc _
      | exact (((Gr.refl [] w).drew.alloc _).nextB H5.out)

end Go.Proofs.YtpkhfdcokcchdabDoor
