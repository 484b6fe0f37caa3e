/-
  Layer 12: Right, size, Size; a Put of a few bytes; Encode.
-/
import Derived.Test.YtpkhfdcokcchdabDoorRcA
import Derived.Test.YtpkhfdcokcchdabDoorRegT
namespace Go.Proofs.YtpkhfdcokcchdabDoor
open Go.RowKit

/-- A word, as a string. -/
def wordS (s : ByteArray) (m : UInt8) : ByteArray := ⟨(wordL s.data.toList m).toArray⟩
theorem wordS_list (s : ByteArray) (m : UInt8) : (wordS s m).data.toList = wordL s.data.toList m := rfl
theorem wordS_size (s : ByteArray) (m : UInt8) (h : s.size ≤ 7) : (wordS s m).size = 8 := by
  rw [size_list, wordS_list, wordL_len _ _ (by rw [← size_list]; exact h)]
theorem word_lit (s : ByteArray) (m : UInt8) (z : Int) (w : World) (hz : z = (m.toNat : Int)) (hs : s.size ≤ 7) :
    Calls Tryd.prog 20 #[.string s, .int .u8 z] w fun e w' => e = .returned (.string (wordS s m)) ∧ Gr [] w w' := by
  subst hz
  exact word_any s m w hs
theorem minAB (P : Program) (x y : Int) (m : Nat) (h : (m : Int) = min x y) (ts : Array TypeId) (t : TypeId) (w : World) : (Builtin.min_ ts t #[.int .i64 x, .int .i64 y]).run P w = .ok (.int .i64 (m : Int)) w := by
  rw [run_min_int2]
  have : (if y < x then y else x) = (m : Int) := by split <;> omega
  rw [this]
theorem nW_le {n : Nat} (h : n ≤ 1024) : nW n ≤ 147 := by unfold nW; omega
theorem nW_lt {n k : Nat} (h : 7 * k < n) : k < nW n := by unfold nW; omega
theorem min_piece (l : List UInt8) (k : Nat) {n : Nat} (h : n = l.length) : (l.drop (7 * k)).take (min (7 * k + 7) n - 7 * k) = (l.drop (7 * k)).take 7 := by
  subst h
  apply ext_bt
  · simp; omega
  · intro i hi
    rw [bt_take, bt_take]
    by_cases h1 : i < min (7 * k + 7) l.length - 7 * k
    · rw [if_pos h1, if_pos (by omega)]
    · rw [if_neg h1, bt_drop]
      split
      · rw [bt_out _ _ (by omega)]
      · rfl
theorem preK_pad (h b : List UInt8) (n k : Nat) : preK (h ++ List.replicate n 0) b k = preK h b k := by
  unfold preK
  congr 1
  funext j
  unfold encF
  rw [bt_append, bt_rep]
  by_cases c : 7 * (j / 8) + j % 8 < h.length
  · rw [if_pos c]
  · rw [if_neg c, bt_out h _ (by omega)]
/-- What an encoding has made by now. -/
structure EncS (w0 w : World) (B : Nat) (l : List UInt8) : Prop where
  b : Bld w B l
  g : Below B w0 w
theorem EncS.gr0 {w0 w w' : World} {B : Nat} {l : List UInt8} (h : EncS w0 w B l) (g : Gr [] w w') (hB : w0.heap.size = B) : EncS w0 w' B l :=
  ⟨h.b.gr0 g, h.g.trans (g.below (by have := h.g.size; omega) (fun _ e => by cases e))⟩
theorem EncS.write {w0 w w' : World} {B : Nat} {l l' : List UInt8} (h : EncS w0 w B l) (hb : Bld w' B l') (g : Below B w w') : EncS w0 w' B l' := ⟨hb, h.g.trans g⟩
theorem enc_room {l : List UInt8} (s : ByteArray) (m : UInt8) (hl : l.length ≤ 100000) (hs : s.size ≤ 7) : l.length + (wordS s m).size ≤ 140737488355328 := by
  rw [wordS_size _ _ hs]
  omega
theorem size_take (s : ByteArray) (i j : Nat) (h : j - i ≤ 7) : (s.extract i j).size ≤ 7 := by
  rw [ByteArray.size_extract]; omega
theorem rright_yes (kind : Nat) (s : ByteArray) (w : World) (hk : kind ≠ 0) (hs : s.size ≤ 1024) :
    Calls Tryd.prog 11 #[.agg #[.int .u8 kind, .string s]] w fun e w' => e = .returned (.bool true) ∧ Gr [] w w' := by
  have HG := Lib.hid ((Gr.refl [] w).alloc (Obj.cells #[.int .u8 kind, .string s] 25))
  have h1 : ((kind : Int) != 0) = true := by simp; omega
  have h2 : decide ((s.size : Int) ≤ 1024) = true := by simp; omega
  go_enter Tryd.func11, Tryd.ntmps11
  go_wp2_with fail
  go_ret
  exact ⟨rfl, HG.out⟩
theorem rright_no (kind : Nat) (s : ByteArray) (w : World) (h : kind = 0 ∨ 1024 < s.size) :
    Calls Tryd.prog 11 #[.agg #[.int .u8 kind, .string s]] w fun e w' => e = .returned (.bool false) ∧ Gr [] w w' := by
  have HG := Lib.hid ((Gr.refl [] w).alloc (Obj.cells #[.int .u8 kind, .string s] 25))
  by_cases h0 : kind = 0
  · subst h0
    clear h
    go_enter Tryd.func11, Tryd.ntmps11
    go_wp2_with fail
    go_ret
    exact ⟨rfl, HG.out⟩
  · have h1 : ((kind : Int) != 0) = true := by simp; omega
    have h2 : decide ((s.size : Int) ≤ 1024) = false := by simp; omega
    have H := Lib.hid h
    clear h h0
    go_enter Tryd.func11, Tryd.ntmps11
    go_wp2_with fail
    go_ret
    exact ⟨rfl, HG.out⟩
theorem size_any (n : Nat) (w : World) (h : n ≤ 1000000) :
    Calls Tryd.prog 26 #[.int .i64 n] w fun e w' => e = .returned (.int .i64 (sizeN n : Nat)) ∧ w = w' := by
  go_enter Tryd.func26, Tryd.ntmps26
  go_wp2_with fail
  go_ret
  refine ⟨?_, rfl⟩
  show Ending.returned (.int .i64 (8 * (3 + ((n : Int) + 7 - 1) / 7 + 1))) = _
  have : 8 * (3 + ((n : Int) + 7 - 1) / 7 + 1) = ((sizeN n : Nat) : Int) := by unfold sizeN nW; omega
  rw [this]
theorem rsize_yes (kind : Nat) (s : ByteArray) (w : World) (hk : kind ≠ 0) (hs : s.size ≤ 1024) :
    Calls Tryd.prog 12 #[.agg #[.int .u8 kind, .string s]] w fun e w' => e = .returned (.int .i64 (sizeN s.size : Nat)) ∧ Gr [] w w' := by
  have HG := Lib.hid ((Gr.refl [] w).alloc (Obj.cells #[.int .u8 kind, .string s] 25))
  have HB := Lib.hid (Holds.new w #[.int .u8 kind, .string s] 25)
  have HR := Lib.hid (fun W => rright_yes kind s W hk hs)
  go_enter Tryd.func12, Tryd.ntmps12
  go_wp2_with fail
  refine (HR.out _).mono ?_
  rintro e w1 ⟨rfl, g1⟩
  have HG1 := Lib.hid (HG.out.next0 g1)
  have b1 := (HB.out.gr0 g1).cell 1
  clear g1
  go_wp2_with fail
  refine (size_any s.size _ (by omega)).mono ?_
  rintro e w2 ⟨rfl, rfl⟩
  go_wp2_with fail
  go_ret
  exact ⟨rfl, HG1.out⟩
theorem rsize_no (kind : Nat) (s : ByteArray) (w : World) (h : kind = 0 ∨ 1024 < s.size) :
    Calls Tryd.prog 12 #[.agg #[.int .u8 kind, .string s]] w fun e w' => e = .returned (.int .i64 0) ∧ Gr [] w w' := by
  have HG := Lib.hid ((Gr.refl [] w).alloc (Obj.cells #[.int .u8 kind, .string s] 25))
  have HR := Lib.hid (fun W => rright_no kind s W h)
  clear h
  go_enter Tryd.func12, Tryd.ntmps12
  go_wp2_with fail
  refine (HR.out _).mono ?_
  rintro e w1 ⟨rfl, g1⟩
  have HG1 := Lib.hid (HG.out.next0 g1)
  clear g1
  go_wp2_with fail
  go_ret
  exact ⟨rfl, HG1.out⟩
def Z6 : ByteArray := ⟨(List.replicate 6 (0 : UInt8)).toArray⟩
theorem Z6_size : Z6.size = 6 := rfl
theorem rep6 (w : World) : Calls Tryd.prog 18 #[.string ⟨#[0]⟩, .int .i64 6] w fun e w' => e = .returned (.string Z6) ∧ Below w.heap.size w w' := rep_any 6 w (by omega)
/-- The first bytes of a number, as a string. -/
def putS (n k : Nat) : ByteArray := ⟨(putL n k).toArray⟩
theorem putS_list (n k : Nat) : (putS n k).data.toList = putL n k := rfl
theorem putS_size (n k : Nat) : (putS n k).size = k := by rw [size_list, putS_list, putL_length]
theorem put4S (n : Nat) (w : World) (hn : n < 18446744073709551616) : Calls Tryd.prog 17 #[.int .u64 n, .int .i64 4] w fun e w' => e = .returned (.string (putS n 4)) ∧ Below w.heap.size w w' := put_any n 4 w hn
theorem put2 (n : Nat) (w : World) (hn : n < 18446744073709551616) : Calls Tryd.prog 17 #[.int .u64 n, .int .i64 2] w fun e w' => e = .returned (.string ⟨(putL n 2).toArray⟩) ∧ Below w.heap.size w w' := put_any n 2 w hn
theorem put1 (n : Nat) (w : World) (hn : n < 18446744073709551616) : Calls Tryd.prog 17 #[.int .u64 n, .int .i64 1] w fun e w' => e = .returned (.string ⟨(putL n 1).toArray⟩) ∧ Below w.heap.size w w' := put_any n 1 w hn
theorem put4 (n : Nat) (w : World) (hn : n < 18446744073709551616) : Calls Tryd.prog 17 #[.int .u64 n, .int .i64 4] w fun e w' => e = .returned (.string ⟨(putL n 4).toArray⟩) ∧ Below w.heap.size w w' := put_any n 4 w hn
theorem encode_no (e v q kind : Nat) (s : ByteArray) (w : World) (h : kind = 0 ∨ 1024 < s.size) :
    Calls Tryd.prog 7 #[.agg #[.int .u32 e, .int .u32 v, .int .u32 q], .agg #[.int .u8 kind, .string s]] w fun r w' => r = .returned (.tuple #[.string ⟨#[]⟩, .int .i64 2]) ∧ Gr [] w w' := by
  have HG := Lib.hid (((Gr.refl [] w).alloc (Obj.cells #[.int .u32 e, .int .u32 v, .int .u32 q] 30)).alloc (Obj.cells #[.int .u8 kind, .string s] 25))
  have HR := Lib.hid (fun W => rright_no kind s W h)
  clear h
  go_enter Tryd.func7, Tryd.ntmps7
  go_wp2_with fail
  refine (HR.out _).mono ?_
  rintro e w1 ⟨rfl, g1⟩
  have HG1 := Lib.hid (HG.out.next0 g1)
  clear g1
  go_wp2_with fail
  go_ret2
  exact ⟨rfl, HG1.out⟩

set_option maxHeartbeats 4000000 in
set_option maxRecDepth 20000 in
theorem encode_yes (e v q kind : Nat) (s : ByteArray) (w : World) (he : e < 4294967296) (hv : v < 4294967296) (hq : q < 4294967296) (hk : kind < 256) (h0 : kind ≠ 0) (hs : s.size ≤ 1024) :
    Calls Tryd.prog 7 #[.agg #[.int .u32 e, .int .u32 v, .int .u32 q], .agg #[.int .u8 kind, .string s]] w fun r w' => r = .returned (.tuple #[.string ⟨(encL e v q kind s.data.toList).toArray⟩, .int .i64 0]) ∧ Gr [] w w' := by
  have HG := Lib.hid (((Gr.refl [] w).alloc (Obj.cells #[.int .u32 e, .int .u32 v, .int .u32 q] 30)).alloc (Obj.cells #[.int .u8 kind, .string s] 25))
  have HA := Lib.hid ((Holds.new w #[.int .u32 e, .int .u32 v, .int .u32 q] 30).alloc (Obj.cells #[.int .u8 kind, .string s] 25))
  have HB := Lib.hid (Holds.new (w.alloc (Obj.cells #[.int .u32 e, .int .u32 v, .int .u32 q] 30)) #[.int .u8 kind, .string s] 25)
  rw [World.size_alloc] at HB
  have HR := Lib.hid (fun W => rright_yes kind s W h0 hs)
  clear h0
  go_enter Tryd.func7, Tryd.ntmps7
  go_wp2_with fail
  refine (HR.out _).mono ?_
  rintro r w1 ⟨rfl, g1⟩
  have HG1 := Lib.hid (HG.out.next0 g1)
  have A1 := Lib.hid (HA.out.gr0 g1)
  have B1 := Lib.hid (HB.out.gr0 g1)
  clear g1 HA HB HG HR
  obtain ⟨ba, hba⟩ : ∃ b, w.heap.size = b := ⟨_, rfl⟩
  rw [hba] at A1 B1 ⊢
  have HBA := Lib.hid hba
  clear hba
  have a0 := kp_cell (A1.out.cell 0)
  have a1 := kp_cell (A1.out.cell 1)
  have a2 := kp_cell (A1.out.cell 2)
  have b0 := kp_cell (B1.out.cell 0)
  have b1 := kp_cell (B1.out.cell 1)
  have hne := kp_ne w1
  have u1 : IntKind.u64.wrap (s.size : Int) = (s.size : Int) := by rw [IntKind.wrap_u64]; omega
  have hpl := putL_length
  have P1 := Lib.hid (fun x : Cls (Kp w1) => put2 s.size x.w (by omega))
  have P2 := Lib.hid (fun x : Cls (Kp w1) => put1 kind x.w (by omega))
  have P3 := Lib.hid (fun x : Cls (Kp w1) => put4 e x.w (by omega))
  have P4 := Lib.hid (fun x : Cls (Kp w1) => put4 v x.w (by omega))
  have P5 := Lib.hid (fun x : Cls (Kp w1) => put4 q x.w (by omega))
  go_wp2_with fail
  refine wp_region_kp (by kernel_rfl) (by kernel_rfl) ?_
  repeat (go_big_quiet_step ((rename_i x; first
    | with_reducible exact kp_call x (P1.out x)
    | with_reducible exact kp_call x (P2.out x)
    | with_reducible exact kp_call x (P3.out x)
    | with_reducible exact kp_call x (P4.out x)
    | with_reducible exact kp_call x (P5.out x))))
  with_reducible refine wpQuiet_nil ?_
  rintro _ ⟨y, rfl⟩
  obtain ⟨H, hH⟩ : ∃ H : ByteArray, H = (⟨(putL s.size 2).toArray⟩ ++ ⟨(putL kind 1).toArray⟩ ++ ⟨(putL e 4).toArray⟩ ++ ⟨(putL v 4).toArray⟩ ++ ⟨(putL q 4).toArray⟩ : ByteArray) := ⟨_, rfl⟩
  rw [← hH]
  have HH := Lib.hid (show H.data.toList = headB e v q kind s.data.toList.length by rw [hH, app_toList, app_toList, app_toList, app_toList, size_list]; simp only [headB, List.append_assoc])
  have hHs : H.size = 15 := by rw [size_list, HH.out, headB_len]
  have hZs := Z6_size
  have HG2 := Lib.hid (HG1.out.nextB y.h)
  have B2 := Lib.hid (B1.out.gr0 (.ofBelow y.h))
  clear hH a0 a1 a2 b0 b1 hne u1 hpl P1 P2 P3 P4 P5 HG1 A1 B1
  generalize y.w = w2 at *
  clear y
  go_wp2_with fail
  refine (rep6 _).mono ?_
  rintro r w3 ⟨rfl, g3⟩
  have HG3 := Lib.hid (HG2.out.nextB g3)
  have B3 := Lib.hid (B2.out.below g3)
  clear g3 HG2 B2
  go_wp2_with fail
  obtain ⟨K, hK⟩ : ∃ K : ByteArray, K = H ++ Z6 := ⟨_, rfl⟩
  rw [← hK]
  have HK := Lib.hid (show K.data.toList = headB e v q kind s.data.toList.length ++ List.replicate 6 0 by rw [hK, app_toList, HH.out]; rfl)
  have hKs : K.size = 21 := by rw [size_list, HK.out, List.length_append, headB_len]; rfl
  clear hK hHs hZs HH
  obtain ⟨h, hh⟩ : ∃ h, h = headB e v q kind s.data.toList.length ++ List.replicate 6 0 := ⟨_, rfl⟩
  rw [← hh] at HK
  have HHD := Lib.hid hh
  clear hh
  obtain ⟨B, hB⟩ : ∃ b, w3.heap.size = b := ⟨_, rfl⟩
  have HBB := Lib.hid hB
  have E0 : EncS w3 (w3.alloc (.cells #[.pointer none, .slice none 0 0] 57)) B (preK h s.data.toList 0) := by
    subst hB
    exact ⟨Bld.new w3, (Below.refl _ _).alloc (Nat.le_refl _) _⟩
  rw [hB]
  clear hB
  go_loopw [42] (fun i wr => ∃ k : Nat, k ≤ 3 ∧ i = .int .i64 k ∧ EncS w3 wr B (preK h s.data.toList k)) (fun i _ => 3 - (intOf i).toNat)
  case atStart => exact ⟨0, by omega, rfl, E0⟩
  case round =>
    clear E0
    obtain ⟨k, hk3, rfl, E⟩ := hrel
    have HE := Lib.hid E
    clear E
    obtain rfl | rfl | rfl | rfl : k = 0 ∨ k = 1 ∨ k = 2 ∨ k = 3 := by omega
    · have HW := Lib.hid (fun W => word_lit (K.extract 0 7) 17 17 W rfl (size_take _ _ _ (by omega)))
      go_wp2_with fail
      refine (HW.out _).mono ?_
      rintro r w5 ⟨rfl, g5⟩
      have HE5 := Lib.hid (HE.out.gr0 g5 HBB.out)
      clear g5
      go_wp2_with fail
      refine (bld_write B _ _ _ HE5.out.b (enc_room _ _ (by rw [preK_len]; omega) (size_take _ _ _ (by omega)))).mono ?_
      rintro r w6 ⟨rfl, b6, g6⟩
      have HE6 := Lib.hid (HE5.out.write b6 g6)
      clear b6 g6
      go_wp2_with fail
      go_roundw
      case rel => exact ⟨1, by omega, rfl, by rw [preK_head _ _ 0 (by omega)]; have q := HE6.out; rw [wordS_list, ext_toList, HK.out] at q; exact q⟩
      case measure => simp [intOf]
    · have HW := Lib.hid (fun W => word_lit (K.extract 7 14) 18 18 W rfl (size_take _ _ _ (by omega)))
      go_wp2_with fail
      refine (HW.out _).mono ?_
      rintro r w5 ⟨rfl, g5⟩
      have HE5 := Lib.hid (HE.out.gr0 g5 HBB.out)
      clear g5
      go_wp2_with fail
      refine (bld_write B _ _ _ HE5.out.b (enc_room _ _ (by rw [preK_len]; omega) (size_take _ _ _ (by omega)))).mono ?_
      rintro r w6 ⟨rfl, b6, g6⟩
      have HE6 := Lib.hid (HE5.out.write b6 g6)
      clear b6 g6
      go_wp2_with fail
      go_roundw
      case rel => exact ⟨2, by omega, rfl, by rw [preK_head _ _ 1 (by omega)]; have q := HE6.out; rw [wordS_list, ext_toList, HK.out] at q; exact q⟩
      case measure => simp [intOf]
    · have HW := Lib.hid (fun W => word_lit (K.extract 14 21) 19 19 W rfl (size_take _ _ _ (by omega)))
      go_wp2_with fail
      refine (HW.out _).mono ?_
      rintro r w5 ⟨rfl, g5⟩
      have HE5 := Lib.hid (HE.out.gr0 g5 HBB.out)
      clear g5
      go_wp2_with fail
      refine (bld_write B _ _ _ HE5.out.b (enc_room _ _ (by rw [preK_len]; omega) (size_take _ _ _ (by omega)))).mono ?_
      rintro r w6 ⟨rfl, b6, g6⟩
      have HE6 := Lib.hid (HE5.out.write b6 g6)
      clear b6 g6
      go_wp2_with fail
      go_roundw
      case rel => exact ⟨3, by omega, rfl, by rw [preK_head _ _ 2 (by omega)]; have q := HE6.out; rw [wordS_list, ext_toList, HK.out] at q; exact q⟩
      case measure => simp [intOf]
    · rw [show ((3 : Nat) : Int) = 3 from rfl]
      go_wp2_with fail
      go_loopw [9] (fun i wr => ∃ k j : Nat, k ≤ nW s.size ∧ i = .int .i64 j ∧ Hid (j = 7 * k) ∧ EncS w3 wr B (preK h s.data.toList (3 + k))) (fun i _ => (s.size + 7) - (intOf i).toNat)
      case atStart => exact ⟨0, 0, by omega, rfl, Lib.hid rfl, HE.out⟩
      case round =>
        clear HE
        obtain ⟨k, j, hkn, rfl, hj, E⟩ := hrel
        have hkb := nW_le hs
        have HE := Lib.hid E
        have b1 := (B3.out.below (by rw [HBB.out]; exact E.g)).cell 1
        clear E
        by_cases hjn : j < s.size
        · obtain ⟨m, hm⟩ : ∃ m : Nat, m = min (j + 7) s.size := ⟨_, rfl⟩
          have hm1 : j ≤ m := by omega
          have hm2 : m ≤ s.size := by omega
          have hm3 : m - j ≤ 7 := by omega
          have hmn := minAB Tryd.prog ((j : Int) + 7) (s.size : Int) m (by omega)
          have HM := Lib.hid hm
          clear hm
          have HW := Lib.hid (fun W => word_lit (s.extract j m) 32 32 W rfl (size_take _ _ _ hm3))
          go_wp2_with fail
          refine (HW.out _).mono ?_
          rintro r w5 ⟨rfl, g5⟩
          have HE5 := Lib.hid (HE.out.gr0 g5 HBB.out)
          clear g5 b1
          go_wp2_with fail
          refine (bld_write B _ _ _ HE5.out.b (enc_room _ _ (by rw [preK_len]; omega) (size_take _ _ _ hm3))).mono ?_
          rintro r w6 ⟨rfl, b6, g6⟩
          have HE6 := Lib.hid (HE5.out.write b6 g6)
          clear b6 g6 hmn
          go_wp2_with fail
          go_roundw
          case rel => exact ⟨k + 1, j + 7, by have := nW_lt (n := s.size) (k := k) (by have := hj.out; omega); omega, by go_num, Lib.hid (by have := hj.out; omega), by
            rw [show 3 + (k + 1) = 3 + k + 1 by omega, preK_body]
            have q := HE6.out
            rw [wordS_list, ext_toList, HM.out, hj.out, min_piece _ _ (size_list s)] at q
            exact q⟩
          case measure => simp [intOf]; omega
        · have HKN := Lib.hid (show k = nW s.size by have := hj.out; unfold nW at *; omega)
          go_wp2_with fail
          have HE2 := Lib.hid (show EncS w3 wr B (preL e v q kind s.data.toList) by
            have q := HE.out
            rw [HKN.out, HHD.out, preK_pad] at q
            unfold preL
            rwa [← size_list]
            )
          clear HE b1
          refine (bld_string B _ _ HE2.out.b).mono ?_
          rintro r w5 ⟨rfl, b5, g5⟩
          have HE5 := Lib.hid (HE2.out.write b5 g5)
          clear b5 g5 HE2
          have hpl : (preL e v q kind s.data.toList).length ≤ 1300 := by rw [preL_len, ← size_list]; unfold sizeN nW; omega
          obtain ⟨P, hP⟩ : ∃ P : ByteArray, P = ⟨(preL e v q kind s.data.toList).toArray⟩ := ⟨_, rfl⟩
          have HP := Lib.hid hP
          rw [← hP]
          have HPs : P.size ≤ 1300 := by rw [hP, size_list]; exact hpl
          clear hP hpl
          have HS := Lib.hid (fun W => sum32_any P W (by unfold maxLen; omega))
          go_wp2_with fail
          refine (HS.out _).mono ?_
          rintro r w6 ⟨rfl, rfl⟩
          obtain ⟨u, hu⟩ : ∃ u, u = n32 (sum32 P.data.toList) := ⟨_, rfl⟩
          have hul : u < 4294967296 := by rw [hu]; exact n32_lt _
          rw [← hu]
          have HU := Lib.hid hu
          clear hu HS
          have HP4 := Lib.hid (fun W => put4S u W (by omega))
          have u1 : IntKind.u64.wrap (u : Int) = (u : Int) := by rw [IntKind.wrap_u64]; omega
          go_wp2_with fail
          refine (HP4.out _).mono ?_
          rintro r w6 ⟨rfl, g6⟩
          have HE6 := Lib.hid (HE5.out.gr0 (.ofBelow g6) HBB.out)
          clear g6 HE5 u1
          go_wp2_with fail
          refine (bld_string B _ _ HE6.out.b).mono ?_
          rintro r w7 ⟨rfl, b7, g7⟩
          have HE7 := Lib.hid (HE6.out.write b7 g7)
          clear b7 g7 HE6
          rw [← HP.out]
          have HW := Lib.hid (fun W => word_lit (putS u 4) 48 48 W rfl (by rw [putS_size]; omega))
          go_wp2_with fail
          refine (HW.out _).mono ?_
          rintro r w8 ⟨rfl, g8⟩
          have HE8 := Lib.hid (HE7.out.gr0 g8 HBB.out)
          have hws : (wordS (putS u 4) 48).size = 8 := wordS_size _ _ (by rw [putS_size]; omega)
          clear g8 HE7
          go_wp2_with fail
          go_ret2
          refine ⟨?_, HG3.out.nextB (by rw [HBB.out]; exact HE8.out.g)⟩
          have : P ++ wordS (putS u 4) 48 = ⟨(encL e v q kind s.data.toList).toArray⟩ := by
            apply data_eq
            rw [app_toList, HP.out, wordS_list, putS_list, HU.out, HP.out]
            rfl
          rw [← this]
          rfl

end Go.Proofs.YtpkhfdcokcchdabDoor
