/-
  Layer 12: the reference's Encode.
-/
import Derived.Test.YtpkhfdcokcchdabDoorRcJ
import Derived.Test.YtpkhfdcokcchdabDoorSum5
import Derived.Test.YtpkhfdcokcchdabDoorRefA
namespace Go.Proofs.YtpkhfdcokcchdabDoor
open Go.RowKit

theorem rput2S (n : Nat) (w : World) (hn : n < 18446744073709551616) : Calls Tryd.prog 23 #[.int .u64 n, .int .i64 2] w fun e w' => e = .returned (.string (putS n 2)) ∧ Gr [] w w' :=
  (rput_any n 2 w hn (by omega) (by omega)).mono fun _ _ ⟨h1, h2⟩ => ⟨h1, .ofBelow h2⟩
theorem rput4S (n : Nat) (w : World) (hn : n < 18446744073709551616) : Calls Tryd.prog 23 #[.int .u64 n, .int .i64 4] w fun e w' => e = .returned (.string (putS n 4)) ∧ Gr [] w w' :=
  (rput_any n 4 w hn (by omega) (by omega)).mono fun _ _ ⟨h1, h2⟩ => ⟨h1, .ofBelow h2⟩
def stN (e v q k : Nat) : Nat := if k = 0 then e else if k = 1 then v else q
theorem stN_lt (e v q k : Nat) (he : e < 4294967296) (hv : v < 4294967296) (hq : q < 4294967296) : stN e v q k < 4294967296 := by
  unfold stN; split
  · exact he
  · split
    · exact hv
    · exact hq
/-- The head's bytes so far. -/
def hdL (e v q kind n : Nat) : Nat → List UInt8
  | 0 => putL n 2 ++ [UInt8.ofNat kind]
  | k + 1 => hdL e v q kind n k ++ putL (stN e v q k) 4
theorem hdL_len (e v q kind n k : Nat) : (hdL e v q kind n k).length = 3 + 4 * k := by
  induction k with
  | zero => simp [hdL, putL_length]
  | succ k ih => unfold hdL; rw [List.length_append, ih, putL_length]; omega
theorem putL_one (n : Nat) : putL n 1 = [UInt8.ofNat (n % 256)] := by
  rw [putL_succ n 0]
  simp [putL]
theorem hdL_three (e v q kind n : Nat) (hk : kind < 256) : hdL e v q kind n 3 = headB e v q kind n := by
  simp only [hdL, headB, stN, putL_one, Nat.mod_eq_of_lt hk]
  simp
def hdS (e v q kind n k : Nat) : ByteArray := ⟨(hdL e v q kind n k).toArray⟩
theorem hdS_list (e v q kind n k : Nat) : (hdS e v q kind n k).data.toList = hdL e v q kind n k := rfl
theorem hdS_size (e v q kind n k : Nat) : (hdS e v q kind n k).size = 3 + 4 * k := by rw [size_list, hdS_list, hdL_len]
/-- The words so far. -/
def pkS (h b : List UInt8) (k : Nat) : ByteArray := ⟨(preK h b k).toArray⟩
theorem pkS_list (h b : List UInt8) (k : Nat) : (pkS h b k).data.toList = preK h b k := rfl
theorem pkS_size (h b : List UInt8) (k : Nat) : (pkS h b k).size = 8 * k := by rw [size_list, pkS_list, preK_len]
theorem conv_of (k : Nat) (W : World) (b : Nat) (hk : k < 256) (h : W.cell? ⟨b, 0, none⟩ = some (.int .u8 (k : Int))) :
    (convert 47 9 (.slice (some ⟨b, 0, none⟩) 1 1)).run Tryd.prog W = .ok (.string ⟨#[UInt8.ofNat k]⟩) W :=
  conv1 (UInt8.ofNat k) W b (by rw [h]; simp [Nat.mod_eq_of_lt hk])

set_option maxHeartbeats 8000000 in
set_option maxRecDepth 100000 in
theorem rencode_yes (e v q kind : Nat) (s : ByteArray) (w : World) (he : e < 4294967296) (hv : v < 4294967296) (hq : q < 4294967296) (hk : kind < 256) (h0 : kind ≠ 0) (hs : s.size ≤ 1024) :
    Calls Tryd.prog 9 #[.agg #[.int .u32 e, .int .u32 v, .int .u32 q, .int .u8 kind, .string s]] w fun r w' => r = .returned (.tuple #[.string ⟨(encL e v q kind s.data.toList).toArray⟩, .int .i64 0]) ∧ Gr [] w w' := by
  have h1 : ((kind : Int) == 0) = false := by simp; omega
  have h2 : decide (1024 < (s.size : Int)) = false := by simp; omega
  have h3 : ¬ (1024 < (s.size : Int)) := by omega
  have u1 : IntKind.u64.wrap (s.size : Int) = (s.size : Int) := by rw [IntKind.wrap_u64]; omega
  have HG := Lib.hid ((Gr.refl [] w).alloc (Obj.cells #[.int .u32 e, .int .u32 v, .int .u32 q, .int .u8 kind, .string s] 35))
  have HA := Lib.hid (Holds.new w #[.int .u32 e, .int .u32 v, .int .u32 q, .int .u8 kind, .string s] 35)
  have P1 := Lib.hid (fun W => rput2S s.size W (by omega))
  go_enter Tryd.func9, Tryd.ntmps9
  go_wp2_with fail
  refine (P1.out _).mono ?_
  rintro r w1 ⟨rfl, g1⟩
  have HG1 := Lib.hid (HG.out.next0 g1)
  have A1 := Lib.hid (HA.out.gr0 g1)
  clear g1 HA HG P1 h1 h2 h3 u1
  obtain ⟨ba, hba⟩ : ∃ b, w.heap.size = b := ⟨_, rfl⟩
  rw [hba] at A1 ⊢
  clear hba
  have c3 : w1.cell? ⟨ba, 3, none⟩ = some (.int .u8 kind) := A1.out.cell 3
  have hcv := fun (W : World) (b : Nat) => conv_of kind W b hk
  have hadd := fun (W : World) => (run_string_add_sum (P := Tryd.prog) (w := W) (putS s.size 2) (⟨#[UInt8.ofNat kind]⟩ : ByteArray) (by rw [putS_size]; show 2 + 1 ≤ _; omega)).trans (show _ = Result.ok (.string (hdS e v q kind s.size 0)) W from rfl)
  go_wp2_with fail
  have HG2 := Lib.hid (HG1.out.alloc (Obj.cells #[.int .u8 kind] 5))
  have A2 := Lib.hid (A1.out.alloc (Obj.cells #[.int .u8 kind] 5))
  clear hcv hadd c3 HG1 A1
  go_loopw [4, 5] (fun x i wr => ∃ k : Nat, k ≤ 3 ∧ x = .string (hdS e v q kind s.size k) ∧ i = .int .i64 k ∧ Gr [] w wr ∧ Holds wr ba #[.int .u32 e, .int .u32 v, .int .u32 q, .int .u8 kind, .string s] 35) (fun _ i _ => 3 - (intOf i).toNat)
  case atStart => exact ⟨0, by omega, rfl, rfl, HG2.out, A2.out⟩
  case round =>
    clear HG2 A2
    obtain ⟨k, hk3, rfl, rfl, g, A⟩ := hrel
    have HG := Lib.hid g
    have HA := Lib.hid A
    clear g A
    by_cases hlt : k < 3
    · obtain ⟨x, hx⟩ : ∃ x, x = stN e v q k := ⟨_, rfl⟩
      have hxl : x < 4294967296 := by rw [hx]; exact stN_lt e v q k he hv hq
      have ck : wr.cell? ⟨ba, k, none⟩ = some (.int .u32 x) := by
        rw [HA.out.cell k, hx]
        obtain rfl | rfl | rfl : k = 0 ∨ k = 1 ∨ k = 2 := by omega
        · rfl
        · rfl
        · rfl
      have u1 : IntKind.u64.wrap (x : Int) = (x : Int) := by rw [IntKind.wrap_u64]; omega
      have P2 := Lib.hid (fun W => rput4S x W (by omega))
      have hadd := fun (W : World) => (run_string_add_sum (P := Tryd.prog) (w := W) (hdS e v q kind s.size k) (putS x 4) (by rw [putS_size, hdS_size]; omega)).trans (show _ = Result.ok (.string (hdS e v q kind s.size (k + 1))) W by
        congr 2
        apply data_eq
        rw [app_toList, hdS_list, hdS_list, putS_list, hx]
        rfl)
      have hlt3 : (k : Int) < 3 := by omega
      clear hx
      go_wp2_with fail
      refine (P2.out _).mono ?_
      rintro r w4 ⟨rfl, g4⟩
      have HG4 := Lib.hid (HG.out.next0 g4)
      have HA4 := Lib.hid (HA.out.gr0 g4)
      clear g4 HG HA P2 ck u1
      go_wp2_with fail
      go_roundw
      case rel => exact ⟨k + 1, by omega, rfl, by simp, HG4.out, HA4.out⟩
      case measure => simp [intOf]; omega
    · obtain rfl : k = 3 := by omega
      rw [show ((3 : Nat) : Int) = 3 from rfl]
      have hH := hdS_size e v q kind s.size 3
      have HH := Lib.hid (hdL_three e v q kind s.size hk)
      have HHl := Lib.hid (hdS_list e v q kind s.size 3)
      generalize hdS e v q kind s.size 3 = H at *
      have hH : H.size = 15 := hH
      have q1 := size_take H 0 7 (by omega)
      have q2 := size_take H 7 14 (by omega)
      have q3 := size_take H 14 15 (by omega)
      have W1 := Lib.hid (fun W => rword_any (H.extract 0 7) 17 17 W rfl (by omega))
      have W2 := Lib.hid (fun W => rword_any (H.extract 7 14) 18 18 W rfl (by omega))
      have W3 := Lib.hid (fun W => rword_any (H.extract 14 15) 19 19 W rfl (by omega))
      clear q1 q2 q3
      obtain ⟨hb, hhb⟩ : ∃ h, h = headB e v q kind s.size := ⟨_, rfl⟩
      obtain ⟨bb, hbb⟩ : ∃ b, b = s.data.toList := ⟨_, rfl⟩
      have HL : H.data.toList = hb := by rw [HHl.out, HH.out, hhb]
      have HLl : hb.length = 15 := by rw [hhb, headB_len]
      have e1 : wordS (H.extract 0 7) 17 = pkS hb bb 1 := by
        apply data_eq
        rw [wordS_list, pkS_list, preK_head _ _ 0 (by omega), preK_zero, ext_toList, HL]
        rfl
      have e2 : pkS hb bb 1 ++ wordS (H.extract 7 14) 18 = pkS hb bb 2 := by
        apply data_eq
        rw [app_toList, wordS_list, pkS_list, pkS_list, preK_head _ _ 1 (by omega), ext_toList, HL]
        rfl
      have e3 : pkS hb bb 2 ++ wordS (H.extract 14 15) 19 = pkS hb bb 3 := by
        apply data_eq
        rw [app_toList, wordS_list, pkS_list, pkS_list, preK_head _ _ 2 (by omega), ext_toList, HL]
        rw [List.take_of_length_le (l := hb.drop (7 * 2)) (by rw [List.length_drop, HLl]; omega), List.take_of_length_le (by rw [List.length_drop, HLl]; omega)]
        rfl
      rw [e1] at W1
      obtain ⟨X2, hX2⟩ : ∃ X, X = wordS (H.extract 7 14) 18 := ⟨_, rfl⟩
      obtain ⟨X3, hX3⟩ : ∃ X, X = wordS (H.extract 14 15) 19 := ⟨_, rfl⟩
      have x2 : X2.size = 8 := by rw [hX2, wordS_size _ _ (size_take _ _ _ (by omega))]
      have x3 : X3.size = 8 := by rw [hX3, wordS_size _ _ (size_take _ _ _ (by omega))]
      rw [← hX2] at W2 e2
      rw [← hX3] at W3 e3
      have hadd2 := fun (W : World) => (run_string_add_sum (P := Tryd.prog) (w := W) (pkS hb bb 1) X2 (by rw [pkS_size, x2]; omega)).trans (by rw [e2])
      have hadd3 := fun (W : World) => (run_string_add_sum (P := Tryd.prog) (w := W) (pkS hb bb 2) X3 (by rw [pkS_size, x3]; omega)).trans (by rw [e3])
      have HHB := Lib.hid hhb
      have HBB := Lib.hid hbb
      clear e1 e2 e3 hX2 hX3 HL HLl HH HHl hhb hbb
      go_wp2_with fail
      refine (W1.out _).mono ?_
      rintro r w5 ⟨rfl, g5⟩
      go_wp2_with fail
      refine (W2.out _).mono ?_
      rintro r w6 ⟨rfl, g6⟩
      go_wp2_with fail
      refine (W3.out _).mono ?_
      rintro r w7 ⟨rfl, g7⟩
      have HG7 := Lib.hid (((HG.out.next0 g5).next0 g6).next0 g7)
      have HA7 := Lib.hid (((HA.out.gr0 g5).gr0 g6).gr0 g7)
      clear g5 g6 g7 W1 W2 W3 HG HA
      go_wp2_with fail
      clear hadd2 hadd3 x2 x3 hH
      go_loopw [10, 11] (fun x i wr => ∃ k j : Nat, k ≤ nW s.size ∧ x = .string (pkS hb bb (3 + k)) ∧ i = .int .i64 j ∧ Hid (j = 7 * k) ∧ Gr [] w wr ∧ Holds wr ba #[.int .u32 e, .int .u32 v, .int .u32 q, .int .u8 kind, .string s] 35) (fun _ i _ => (s.size + 7) - (intOf i).toNat)
      case atStart => exact ⟨0, 0, by omega, rfl, rfl, Lib.hid rfl, HG7.out, HA7.out⟩
      case round =>
        clear HG7 HA7
        obtain ⟨k, j, hkn, rfl, rfl, hj, g, A⟩ := hrel
        have HG := Lib.hid g
        have c4 : wr.cell? ⟨ba, 4, none⟩ = some (.string s) := A.cell 4
        have HA := Lib.hid A
        clear g A
        have hkb := nW_le hs
        by_cases hjn : j < s.size
        · obtain ⟨m, hm⟩ : ∃ m : Nat, m = min (j + 7) s.size := ⟨_, rfl⟩
          obtain ⟨X, hX⟩ : ∃ X, X = wordS (s.extract j m) 32 := ⟨_, rfl⟩
          have hXs : X.size = 8 := by rw [hX, wordS_size _ _ (size_take _ _ _ (by omega))]
          have ex : pkS hb bb (3 + k) ++ X = pkS hb bb (3 + (k + 1)) := by
            apply data_eq
            rw [app_toList, pkS_list, pkS_list, hX, wordS_list, show 3 + (k + 1) = 3 + k + 1 by omega, preK_body, ext_toList, hm, hj.out, min_piece _ _ (size_list s), HBB.out]
          have hadd := fun (W : World) => (run_string_add_sum (P := Tryd.prog) (w := W) (pkS hb bb (3 + k)) X (by rw [pkS_size, hXs]; omega)).trans (by rw [ex])
          have hkl : k + 1 ≤ nW s.size := by have := nW_lt (n := s.size) (k := k) (by have := hj.out; omega); omega
          have hjs : (j : Int) < (s.size : Int) := by omega
          have W1 := Lib.hid (fun W => rword_any (s.extract j m) 32 32 W rfl (size_take _ _ _ (by omega)))
          rw [← hX] at W1
          clear ex hX
          by_cases hgt : s.size < j + 7
          · have g1 : (s.size : Int) < (j : Int) + 7 := by omega
            have g2 : (j : Int) ≤ (s.size : Int) := by omega
            obtain rfl : m = s.size := by omega
            clear hm
            go_wp2_with fail
            refine (W1.out _).mono ?_
            rintro r w8 ⟨rfl, g8⟩
            have HG8 := Lib.hid (HG.out.next0 g8)
            have HA8 := Lib.hid (HA.out.gr0 g8)
            clear g8 HG HA W1 c4
            go_wp2_with fail
            go_roundw
            case rel => exact ⟨k + 1, j + 7, hkl, rfl, by simp, Lib.hid (by have := hj.out; omega), HG8.out, HA8.out⟩
            case measure => simp [intOf]; omega
          · have g1 : ¬ (s.size : Int) < (j : Int) + 7 := by omega
            have g2 : (j : Int) + 7 ≤ (s.size : Int) := by omega
            have gc : (j : Int) ≤ (j : Int) + 7 := by omega
            have gd : (0 : Int) ≤ (j : Int) + 7 := by omega
            have ge : ((j : Int) + 7).toNat = j + 7 := by omega
            obtain rfl : m = j + 7 := by omega
            clear hm
            go_wp2_with fail
            refine (W1.out _).mono ?_
            rintro r w8 ⟨rfl, g8⟩
            have HG8 := Lib.hid (HG.out.next0 g8)
            have HA8 := Lib.hid (HA.out.gr0 g8)
            clear g8 HG HA W1 c4 gc gd ge
            go_wp2_with fail
            go_roundw
            case rel => exact ⟨k + 1, j + 7, hkl, rfl, by simp, Lib.hid (by have := hj.out; omega), HG8.out, HA8.out⟩
            case measure => simp [intOf]; omega
        · have hjs : ¬ (j : Int) < (s.size : Int) := by omega
          have HKN := Lib.hid (show k = nW s.size by have := hj.out; unfold nW at *; omega)
          have HP := Lib.hid (show (pkS hb bb (3 + k)).data.toList = preL e v q kind s.data.toList by
            rw [pkS_list, HKN.out, HHB.out, HBB.out]
            unfold preL
            rw [size_list])
          have hps : (pkS hb bb (3 + k)).size ≤ 2000 := by rw [pkS_size]; omega
          generalize pkS hb bb (3 + k) = P at *
          have HS := Lib.hid (fun W => rsum32 P W hps)
          go_wp2_with fail
          refine (HS.out _).mono ?_
          rintro r w8 ⟨rfl, g8⟩
          have HG8 := Lib.hid (HG.out.next0 (.ofBelow g8))
          clear g8 HG HA HS c4
          obtain ⟨u, hu⟩ : ∃ u, u = n32 (sum32 P.data.toList) := ⟨_, rfl⟩
          have hul : u < 4294967296 := by rw [hu]; exact n32_lt _
          rw [← hu]
          have HU := Lib.hid hu
          clear hu
          have HP4 := Lib.hid (fun W => rput4S u W (by omega))
          go_wp2_with fail
          refine (HP4.out _).mono ?_
          rintro r w9 ⟨rfl, g9⟩
          have HG9 := Lib.hid (HG8.out.next0 g9)
          clear g9 HG8 HP4
          have HW := Lib.hid (fun W => rword_any (putS u 4) 48 48 W rfl (by rw [putS_size]; omega))
          have hws : (wordS (putS u 4) 48).size = 8 := wordS_size _ _ (by rw [putS_size]; omega)
          have ex : P ++ wordS (putS u 4) 48 = ⟨(encL e v q kind s.data.toList).toArray⟩ := by
            apply data_eq
            rw [app_toList, HP.out, wordS_list, putS_list, HU.out, HP.out]
            rfl
          have hadd := fun (W : World) => (run_string_add_sum (P := Tryd.prog) (w := W) P (wordS (putS u 4) 48) (by rw [hws]; omega)).trans (by rw [ex])
          clear ex
          go_wp2_with fail
          refine (HW.out _).mono ?_
          rintro r w10 ⟨rfl, g10⟩
          have HG10 := Lib.hid (HG9.out.next0 g10)
          clear g10 HG9 HW
          go_wp2_with fail
          go_ret2
          exact ⟨rfl, HG10.out⟩

theorem rencode_no (e v q kind : Nat) (s : ByteArray) (w : World) (h : kind = 0 ∨ 1024 < s.size) :
    Calls Tryd.prog 9 #[.agg #[.int .u32 e, .int .u32 v, .int .u32 q, .int .u8 kind, .string s]] w fun r w' => r = .returned (.tuple #[.string ⟨#[]⟩, .int .i64 2]) ∧ Gr [] w w' := by
  have HG := Lib.hid ((Gr.refl [] w).alloc (Obj.cells #[.int .u32 e, .int .u32 v, .int .u32 q, .int .u8 kind, .string s] 35))
  by_cases h0 : kind = 0
  · subst h0
    go_enter Tryd.func9, Tryd.ntmps9
    go_wp2_with fail
    go_ret2
    exact ⟨rfl, HG.out⟩
  · have h1 : ((kind : Int) == 0) = false := by simp; omega
    have h3 : 1024 < (s.size : Int) := by omega
    go_enter Tryd.func9, Tryd.ntmps9
    go_wp2_with fail
    go_ret2
    exact ⟨rfl, HG.out⟩

end Go.Proofs.YtpkhfdcokcchdabDoor
