/-
  Layer 18: PathParses.
-/
import Derived.Test.YtnmenihahgggmaaPaW
import Derived.Test.YtnmenihahgggmaaRegT
import Derived.Deep.DeepCutAuto
namespace Go.Proofs.Ytnmenihahgggmaa
open Go.RowKit Go.Shelf

theorem cut_front (S : ByteArray) (c m : Nat) (hm : m = min S.size c) : ∃ T : List UInt8, S.extract 0 m = bsL T ∧ T.length ≤ c := by
  refine ⟨(S.extract 0 m).data.toList, rfl, ?_⟩
  rw [← Lib.size_eq, ByteArray.size_extract]
  omega
set_option maxRecDepth 100000 in
set_option maxHeartbeats 4000000 in
theorem walk_PathParses (S : ByteArray) (hs : S.size ≤ maxLen) (_ : S.size ≤ reachBytes) (w : World) : Calls Try.prog 3 #[.string S] w fun e w' => e = .returned (.bool true) ∧ Below w.heap.size w w' := by
  unfold maxLen at hs
  obtain ⟨m, hm⟩ : ∃ m : Nat, m = min S.size 300 := ⟨_, rfl⟩
  have hmn := minAB Try.prog (S.size : Int) 300 m (by omega)
  have hm1 : m ≤ S.size := by omega
  obtain ⟨T, hT, hT3⟩ := cut_front S 300 m hm
  clear hm
  have HP := Lib.hid (parse_u T)
  have HR := Lib.hid (rparse_u T)
  have heqA := eqW_self (wayA T) (wayD T) (wayL T)
  have hwl := way_len T
  have hel := err_lt T
  go_enter Try.func3, Try.ntmps3
  go_wp2_with (first
    | (go_at_call 7; refine (HP.out _).mono ?_; rintro e w1 ⟨ao, cap, rfl, hs1, g1⟩)
    | (go_at_call 8; refine (HR.out _).mono ?_; rintro e w2 ⟨ao2, cap2, rfl, hs2, g2⟩))
  have HB1 := Lib.hid ((Holds.new w1 #[.bool (wayA T), .slice ao (wayL T).length cap, .bool (wayD T)] 24).gr0 g2 |>.alloc (Obj.cells #[.bool (wayA T), .slice ao2 (wayL T).length cap2, .bool (wayD T)] 28))
  have HB2 := Lib.hid (Holds.new w2 #[.bool (wayA T), .slice ao2 (wayL T).length cap2, .bool (wayD T)] 28)
  have HS1 := Lib.hid ((hs1.gr0 ((Gr.refl [] w1).alloc (Obj.cells #[.bool (wayA T), .slice ao (wayL T).length cap, .bool (wayD T)] 24))).gr0 (g2.alloc (Obj.cells #[.bool (wayA T), .slice ao2 (wayL T).length cap2, .bool (wayD T)] 28)))
  have HS2 := Lib.hid (hs2.gr0 ((Gr.refl [] w2).alloc (Obj.cells #[.bool (wayA T), .slice ao2 (wayL T).length cap2, .bool (wayD T)] 28)))
  have HG := Lib.hid (((g1.alloc (Obj.cells #[.bool (wayA T), .slice ao (wayL T).length cap, .bool (wayD T)] 24)).next0 g2).alloc (Obj.cells #[.bool (wayA T), .slice ao2 (wayL T).length cap2, .bool (wayD T)] 28))
  clear hs1 hs2 g1 g2 hmn hm1 hT HP HR
  generalize (w2.alloc (Obj.cells #[.bool (wayA T), .slice ao2 (wayL T).length cap2, .bool (wayD T)] 28)) = W at *
  generalize w1.heap.size = b1 at *
  generalize w2.heap.size = b2 at *
  clear w1 w2
  obtain ⟨A, hA⟩ : ∃ A, A = wayA T := ⟨_, rfl⟩
  obtain ⟨D, hD⟩ : ∃ D, D = wayD T := ⟨_, rfl⟩
  obtain ⟨n, hn⟩ : ∃ n, n = (wayL T).length := ⟨_, rfl⟩
  obtain ⟨E, hE⟩ : ∃ E, E = errP T := ⟨_, rfl⟩
  obtain ⟨X, hX⟩ : ∃ X, X = bsL (textP A (wayL T) D) := ⟨_, rfl⟩
  have P1 := Lib.hid (fun x : Cls (Kp W) => calls_below (wakes18_any x.w))
  have P2 := Lib.hid (fun x : Cls (Kp W) => calls_below (same_at A D A D (wayL T) (wayL T) ao ao2 cap cap2 x.w (HS1.out.gr0 (.ofBelow x.h)) (HS2.out.gr0 (.ofBelow x.h)) (by omega) (by omega)))
  have P3 := Lib.hid (fun x : Cls (Kp W) => calls_below (text_way T ao cap x.w A D (HS1.out.gr0 (.ofBelow x.h))))
  have P4 := Lib.hid (fun x : Cls (Kp W) => calls_below (rtext_way T ao2 cap2 x.w A D (HS2.out.gr0 (.ofBelow x.h))))
  rw [← hA, ← hD] at heqA
  rw [heqA] at P2
  rw [← hX] at P3 P4
  rw [← hA, ← hD, ← hn] at HB1 HB2 ⊢
  rw [← hE]
  rw [← hn] at P2 P3 P4
  have xx : (X.toList == X.toList) = true := by simp
  have ee : (E == E) = true := by simp
  have c0 := kp_cell (HB1.out.cell 0)
  have c1 := kp_cell (HB1.out.cell 1)
  have c2 := kp_cell (HB1.out.cell 2)
  have r0 := kp_cell (HB2.out.cell 0)
  have r1 := kp_cell (HB2.out.cell 1)
  have r2 := kp_cell (HB2.out.cell 2)
  have hne := kp_ne W
  clear hA hD hn hE hX heqA hwl hel HS1 HS2
  refine wp_region_kp (by kernel_rfl) (by kernel_rfl) ?_
  repeat (go_big_quiet_step ((rename_i x; first
    | with_reducible exact kp_call x (P1.out x)
    | with_reducible exact kp_call x (P2.out x)
    | with_reducible exact kp_call x (P3.out x)
    | with_reducible exact kp_call x (P4.out x))))
  with_reducible refine wpQuiet_nil ?_
  rintro _ ⟨y, rfl⟩
  have HE := Lib.hid (HG.out.nextB y.h)
  go_wp2_with fail
  go_ret
  exact ⟨rfl, HE.out.below0⟩

end Go.Proofs.Ytnmenihahgggmaa
