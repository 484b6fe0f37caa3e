/-
  Layer 15: the reference's Text.
-/
import Derived.Test.YtpkhfdcokcchdabEzA
import Derived.Test.YtpkhfdcokcchdabExC
import Derived.Test.YtpkhfdcokcchdabRefA
namespace Go.Proofs.Ytpkhfdcokcchdab
open Go.RowKit

theorem rputS4 (n : Nat) (S : ByteArray) (w : World) (hn : n < 18446744073709551616) (hS : S = ⟨(putL n 4).toArray⟩) :
    Calls Try.prog 39 #[.int .u64 n, .int .i64 4] w fun e w' => e = .returned (.string S) ∧ Below w.heap.size w w' := by
  subst hS
  exact rput_any n 4 w hn (by omega) (by omega)
theorem str_eq {a b : ByteArray} (h : a.data.toList = b.data.toList) : a = b := by
  apply ByteArray.ext
  exact Array.ext' h
theorem str_app (a b : ByteArray) : (a ++ b).data.toList = a.data.toList ++ b.data.toList := by
  rw [ByteArray.data_append, Array.toList_append]

set_option maxHeartbeats 1000000 in
set_option maxRecDepth 20000 in
theorem rtext_yes (l : List (Int × Int)) (L : Nat) (S : ByteArray) (ao : Option Addr) (cap : Nat) (w : World) (h : Rd2 w ao l) (hL : L = l.length) (hr : Right15 l) (hS : S.data.toList = bytP l) :
    Calls Try.prog 40 #[.slice ao L cap] w fun e w' => e = .returned (.string S) ∧ Gr [] w w' := by
  have HR := Lib.hid h
  have HL := Lib.hid hL
  have HX := Lib.hid hr
  have HS := Lib.hid hS
  have hL64 : L ≤ 64 := by rw [hL]; exact hr.1
  clear h hL hS hr
  go_enter Try.func40, Try.ntmps40
  go_wp2_with fail
  with_reducible refine (rright15_yes l L ao cap w HR.out HL.out HX.out).mono ?_
  rintro e w1 ⟨rfl, g1⟩
  have H1 := Lib.hid (And.intro (HR.out.gr0 g1) g1)
  clear g1 HR
  go_wp2_with fail
  go_loopw [4, 5] (fun v i wr => ∃ (k : Nat) (X : ByteArray), k ≤ L ∧ i = .int .i64 k ∧ v = .string X ∧ Hid (X.data.toList = bytP (l.take k)) ∧ Gr [] w1 wr) (fun _ i _ => L - (intOf i).toNat)
  case atStart => exact ⟨0, ⟨#[]⟩, by omega, rfl, rfl, Lib.hid rfl, Gr.refl _ _⟩
  case round =>
    obtain ⟨k, X, hk, rfl, rfl, HXS, G⟩ := hrel
    by_cases hkL : k < L
    · have hkL2 : (k : Int) < (L : Int) := by omega
      obtain ⟨⟨x1, x2⟩, hx⟩ : ∃ x, l[k]? = some x := ⟨_, List.getElem?_eq_getElem (by have := HL.out; omega)⟩
      obtain ⟨bk, o, hao, hbk, c1, c2⟩ := H1.out.1 k _ hx
      have y0 : wr.cell? ⟨bk, o + k * 2, none⟩ = some (.int .i64 x1) := (G.cell0 hbk).trans c1
      have hxb := HX.out.all _ (List.mem_of_getElem? hx)
      simp only at hxb
      have HST := Lib.hid (bytP_take hx)
      obtain ⟨n1, hn1⟩ : ∃ n1 : Nat, (n1 : Int) = x1 + 1 := ⟨(x1 + 1).toNat, by omega⟩
      obtain ⟨n2, hn2⟩ : ∃ n2 : Nat, (n2 : Int) = x2 := ⟨x2.toNat, by omega⟩
      have hrb : recB (x1, x2) = putL n1 4 ++ putL n2 4 := by
        unfold recB
        simp only
        rw [show (x1 + 1).toNat = n1 by omega, show x2.toNat = n2 by omega]
      rw [hrb] at HST
      have hw1 : IntKind.i64.wrap (x1 + 1) = x1 + 1 := IntWalk.i64_in _ (by omega)
      have hw2 : IntKind.u64.wrap (x1 + 1) = (n1 : Int) := by rw [hn1]; exact IntWalk.u64_in _ (by omega)
      have hw3 : IntKind.u64.wrap x2 = (n2 : Int) := by rw [hn2]; exact IntWalk.u64_in _ (by omega)
      have hn1b : n1 < 18446744073709551616 := by omega
      have hn2b : n2 < 18446744073709551616 := by omega
      have hsX : X.size ≤ 1000 := by
        rw [Lib.size_eq, HXS.out, bytP_len, List.length_take]; omega
      obtain ⟨S1, hS1⟩ : ∃ S : ByteArray, S = ⟨(putL n1 4).toArray⟩ := ⟨_, rfl⟩
      obtain ⟨S2, hS2⟩ : ∃ S : ByteArray, S = ⟨(putL n2 4).toArray⟩ := ⟨_, rfl⟩
      have HP1 := Lib.hid (fun W => rputS4 n1 S1 W hn1b hS1)
      have HP2 := Lib.hid (fun W => rputS4 n2 S2 W hn2b hS2)
      have HS1 := Lib.hid (show S1.data.toList = putL n1 4 by rw [hS1])
      have HS2 := Lib.hid (show S2.data.toList = putL n2 4 by rw [hS2])
      have hz1 : S1.size = 4 := by rw [Lib.size_eq, HS1.out, putL_length]
      have hz2 : S2.size = 4 := by rw [Lib.size_eq, HS2.out, putL_length]
      have HY := Lib.hid (And.intro hbk c2)
      have HG := Lib.hid G
      subst hao
      clear c1 c2 hx hrb G hS1 hS2 hn1 hn2 hxb hn1b hn2b hbk
      go_wp2_with fail
      with_reducible refine (HP1.out _).mono ?_
      rintro e w3 ⟨rfl, g3⟩
      have HG3 := Lib.hid (HG.out.nextB g3)
      have y1 : w3.cell? ⟨bk, o + k * 2 + 1, none⟩ = some (.int .i64 x2) := (HG3.out.cell0 HY.out.1).trans HY.out.2
      clear g3 HG y0
      go_wp2_with fail
      with_reducible refine (HP2.out _).mono ?_
      rintro e w4 ⟨rfl, g4⟩
      have HG4 := Lib.hid (HG3.out.nextB g4)
      clear g4 HG3 y1
      obtain ⟨Y, hY⟩ : ∃ Y, Y = X ++ S1 := ⟨_, rfl⟩
      obtain ⟨Z, hZ⟩ : ∃ Z, Z = Y ++ S2 := ⟨_, rfl⟩
      have hq1 := fun (W : World) => (run_string_add_sum (P := Try.prog) (w := W) X S1 (by omega)).trans (by rw [← hY])
      have hq2 := fun (W : World) => (run_string_add_sum (P := Try.prog) (w := W) Y S2 (by rw [hY, ByteArray.size_append]; omega)).trans (by rw [← hZ])
      have HZ := Lib.hid (show Z.data.toList = bytP (l.take (k + 1)) by
        rw [hZ, str_app, hY, str_app, HXS.out, HS1.out, HS2.out, HST.out, List.append_assoc])
      clear hY hZ
      go_wp2_with fail
      go_roundw
      case rel => exact ⟨k + 1, Z, by omega, by go_num, rfl, HZ, HG4.out⟩
      case measure => simp [intOf]; omega
    · obtain rfl : k = L := by omega
      have ht : l.take k = l := by rw [HL.out]; exact List.take_length
      rw [ht] at HXS
      obtain rfl : X = S := str_eq (by rw [HXS.out, HS.out])
      have HF := Lib.hid (H1.out.2.next0 G)
      clear G
      go_wp2_with fail
      go_ret
      exact ⟨rfl, HF.out⟩
theorem rtext_no (l : List (Int × Int)) (L : Nat) (ao : Option Addr) (cap : Nat) (w : World) (h : Rd2 w ao l) (hL : L = l.length) (hr : ¬ Right15 l) :
    Calls Try.prog 40 #[.slice ao L cap] w fun e w' => e = .returned (.string ⟨#[]⟩) ∧ Gr [] w w' := by
  have HC := Lib.hid (rright15_no l L ao cap w h hL hr)
  clear h hL hr
  go_enter Try.func40, Try.ntmps40
  go_wp2_with fail
  with_reducible refine HC.out.mono ?_
  rintro e w1 ⟨rfl, g1⟩
  have H1 := Lib.hid g1
  clear g1
  go_wp2_with fail
  go_loopw [4, 5] (fun v i wr => v = .string ⟨#[]⟩ ∧ i = .int .i64 0 ∧ wr = w1) (fun _ _ _ => 0)
  case atStart => exact ⟨rfl, rfl, rfl⟩
  case round =>
    obtain ⟨rfl, rfl, rfl⟩ := hrel
    by_cases hk : 0 < L
    · have hk2 : (0 : Int) < (L : Int) := by omega
      go_wp2_with fail
      go_ret
      exact ⟨rfl, H1.out⟩
    · obtain rfl : L = 0 := by omega
      go_wp2_with fail
      go_ret
      exact ⟨rfl, H1.out⟩

end Go.Proofs.Ytpkhfdcokcchdab
