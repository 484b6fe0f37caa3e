/-
  Layer 12: the reference's word and Encode.
-/
import Derived.Test.YtpkhfdcokcchdabDoorRcF
import Derived.Test.YtpkhfdcokcchdabDoorSum5
import Derived.Test.YtpkhfdcokcchdabDoorRefA
namespace Go.Proofs.YtpkhfdcokcchdabDoor
open Go.RowKit

def strSz : Value → Nat
  | .string b => b.size
  | _ => 0

set_option maxHeartbeats 4000000 in
set_option maxRecDepth 100000 in
theorem rword_any (s : ByteArray) (m : UInt8) (z : Int) (w : World) (hz : z = (m.toNat : Int)) (hs : s.size ≤ 7) :
    Calls Tryd.prog 24 #[.string s, .int .u8 z] w fun e w' => e = .returned (.string (wordS s m)) ∧ Gr [] w w' := by
  subst hz
  have hcv := conv1 m
  go_enter Tryd.func24, Tryd.ntmps24
  go_wp2_with fail
  go_loopw [0] (fun v wr => ∃ (k : Nat) (T : ByteArray), s.size + k ≤ 7 ∧ T.size = s.size + k ∧ Hid (T.data.toList = s.data.toList ++ List.replicate k 0) ∧ v = .string T ∧ Gr [] w wr) (fun v _ => 7 - strSz v)
  case atStart => exact ⟨0, s, by omega, by omega, Lib.hid (by simp), rfl, Gr.refl _ _⟩
  case round =>
    obtain ⟨k, T, hk, hT, hTl, rfl, g⟩ := hrel
    have HG := Lib.hid g
    clear g
    by_cases h7 : T.size < 7
    · obtain ⟨X, hX⟩ : ∃ X, X = T ++ (⟨#[0]⟩ : ByteArray) := ⟨_, rfl⟩
      have hXl : X.data.toList = s.data.toList ++ List.replicate (k + 1) 0 := by
        rw [hX, app_toList, hTl.out, List.replicate_succ', List.append_assoc]
      have hXs : X.size = s.size + (k + 1) := by rw [size_list, hXl, List.length_append, List.length_replicate, ← size_list]
      have hadd := fun (W : World) => (run_string_add_sum (P := Tryd.prog) (w := W) T (⟨#[0]⟩ : ByteArray) (by rw [hT]; show s.size + k + 1 ≤ _; omega)).trans (by rw [← hX])
      have HXL := Lib.hid hXl
      clear hX hXl
      have hlt : (T.size : Int) < 7 := by omega
      go_wp2_with fail
      go_roundw
      case rel => exact ⟨k + 1, X, by omega, hXs, HXL, rfl, HG.out⟩
      case measure => simp [strSz]; omega
    · have hlt : ¬ (T.size : Int) < 7 := by omega
      have hk7 : k = 7 - s.size := by omega
      have hX : wordS s m = T ++ (⟨#[m]⟩ : ByteArray) := by
        apply data_eq
        rw [wordS_list, app_toList, hTl.out, hk7, size_list]
        unfold wordL
        rw [List.append_assoc]
      have hadd := fun (W : World) => (run_string_add_sum (P := Tryd.prog) (w := W) T (⟨#[m]⟩ : ByteArray) (by rw [hT]; show s.size + k + 1 ≤ _; omega)).trans (by rw [← hX])
      clear hX hTl hk7
      go_wp2_with fail
      go_ret
      exact ⟨rfl, HG.out.alloc _⟩

end Go.Proofs.YtpkhfdcokcchdabDoor
