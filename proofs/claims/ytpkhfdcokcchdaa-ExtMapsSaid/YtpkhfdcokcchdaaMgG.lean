/-
  MgG: RefA, EzC, EzF.
-/
import Derived.Test.YtpkhfdcokcchdaaMgF
import Derived.Test.YtpkhfdcokcchdaaMgA
import Derived.Test.YtpkhfdcokcchdaaMgB

/-
  Contracts of the reference functions of layer 1: each returns what the plain functions compute.
-/
namespace Go.Proofs.Ytpkhfdcokcchdaa
open Go.RowKit

def byteV (b : UInt8) : Value := .int .u8 (b.toNat : Int)
theorem infoU8 : (Try.prog.info? 5).map (fun i => (i.zero, i.size, i.bytes)) = some (some (.int .u8 0), 1, 1) := by kernel_rfl

/-- A slice of bytes that the call owns, as a string. -/
theorem own_conv {w : World} {B n : Nat} {v : Value} {l : List UInt8} (h : w.ownsRow B 5 1 v n (l.map byteV)) :
    (convert 49 9 v).run Try.prog w = .ok (.string ⟨l.toArray⟩) w := by
  have hl : l.length = n := by simpa using h.1
  rcases h.2 with ⟨rfl, hn⟩ | ⟨g, cap, cur, rfl, _, hg, hle, _, hs, htake⟩
  · have : l = [] := List.length_eq_zero_iff.1 (by omega)
    subst this
    have e := run_convert_bytes_string (P := Try.prog) w 49 9 5 none 0 0 Try.underlying49 Try.underlying5 Try.underlying9
    rw [e]
    rfl
  · subst hl
    have e := run_convert_bytes_back (P := Try.prog) w 49 9 5 ⟨g, 0, none⟩ cap l Try.underlying49 Try.underlying5 Try.underlying9 (fun i hi => by
      have hc : w.cell? (Addr.add ⟨g, 0, none⟩ i) = cur[i]? := by
        have := cell_of_row w g i cur 5 (0, 0) hg
        unfold Addr.add
        split
        · rename_i h0; subst h0; exact this
        · simp [this]
      rw [hc]
      have h1 : (cur.toList.take (l.length * 1))[i]? = (l.map byteV)[i]? := by rw [htake]
      rw [List.getElem?_take_of_lt (by omega)] at h1
      simp [List.getElem?_eq_getElem hi] at h1
      rw [h1]; rfl)
    exact e

theorem putL_div (n k : Nat) : putL n (k + 1) = putL n k ++ [UInt8.ofNat (n / 256 ^ k % 256)] := putL_succ n k

set_option maxHeartbeats 1000000 in
set_option maxRecDepth 20000 in
theorem rput_any (n : Nat) (k : Int) (w : World) (hn : n < 18446744073709551616) (h0 : -9223372036854775808 ≤ k) (h1 : k ≤ 9223372036854775807) :
    Calls Try.prog 97 #[.int .u64 n, .int .i64 k] w fun e w' => e = .returned (.string ⟨(putL n (clamp8 k)).toArray⟩) ∧ Below w.heap.size w w' := by
  obtain ⟨i0, hi, hz0, hz1, hz2⟩ := info_parts infoU8
  have hc8 : clamp8 k = min k.toNat 8 := rfl
  have HC := Lib.hid hc8
  clear hc8
  go_enter Try.func97, Try.ntmps97
  go_wp2
  go_loopw [0, 5, 6] (fun q v i wr => ∃ j : Nat, j ≤ clamp8 k ∧ i = .int .i64 j ∧ q = .int .u64 (n / 256 ^ j : Nat) ∧ wr.ownsRow w.heap.size 5 1 v j ((putL n j).map byteV) ∧ Below w.heap.size w wr)
      (fun _ _ i _ => 8 - (intOf i).toNat)
  case atStart => exact ⟨0, by omega, rfl, by simp, World.ownsRow_nil _ _ _ _, Below.refl _ _⟩
  case round =>
    obtain ⟨j, hj, rfl, rfl, hown, hbel⟩ := hrel
    have hq : n / 256 ^ j < 18446744073709551616 := Nat.lt_of_le_of_lt (Nat.div_le_self _ _) hn
    have hcell : byteV (UInt8.ofNat (n / 256 ^ j % 256)) = .int .u8 ((n / 256 ^ j : Nat) % 256 : Int) := by
      unfold byteV; simp
    have HB := Lib.hid hcell
    have hdiv : ((n / 256 ^ j : Nat) : Int) / 256 = ((n / 256 ^ (j + 1) : Nat) : Int) := by
      rw [Nat.pow_succ, ← Nat.div_div_eq_div_mul]; rfl
    have HD := Lib.hid hdiv
    clear hcell hdiv
    generalize hqq : n / 256 ^ j = q at *
    have HQ := Lib.hid hqq
    clear hqq
    by_cases hlt : j < clamp8 k
    · have hk1 : (j : Int) < k := by have := HC.out; omega
      have hk2 : j < 8 := by have := HC.out; omega
      go_wp2_with (first
        | (at_builtin; refine wpList_append_own _ rfl _ _ 49 rfl w.heap.size 5 i0 (.int .u8 0) 1 1 Try.underlying49 hi hz0 hz1 hz2 rfl (by decide) _ _ _ rfl (hown.alloc _) ⟨wr.heap.size, 0, none⟩ 1 1 [.int .u8 ((q : Int) % 256)] rfl rfl ?c1 ?c2 ?c3 ?c4 ?c5 ?_))
      case c1 =>
        intro a u ha
        match a, ha with
        | 0, ha => simp at ha; subst ha; simp [Addr.add]
      case c2 => intro u hu; simp at hu; subst hu; rfl
      case c3 => unfold maxLen; omega
      case c4 => omega
      case c5 => have := hbel.size; simp; omega
      intro v' w1 hown' hgrow _
      have hrel' : w1.ownsRow w.heap.size 5 1 v' (j + 1) ((putL n (j + 1)).map byteV) ∧ Below w.heap.size w w1 := by
        refine ⟨?_, (hbel.alloc hbel.size _).grown hgrow (by have := hbel.size; simp; omega) (fun g hg => (hown.lt g hg).1)⟩
        rw [putL_div, HQ.out, List.map_append, List.map_cons, List.map_nil, HB.out]
        exact hown'
      clear hown' hgrow hown hbel
      have HR := Lib.hid hrel'
      clear hrel'
      go_wp2
      go_roundw
      case rel => exact ⟨j + 1, by omega, by go_num, by rw [HD.out], HR.out.1, HR.out.2⟩
      case measure => simp [intOf]; omega
    · have hej : j = clamp8 k := by omega
      have hfin := own_conv hown
      have hd : ¬ ((j : Int) < k) ∨ ((j : Int) < k ∧ j = 8) := by have := HC.out; omega
      have HE := Lib.hid hej
      clear hej hj hlt
      rcases hd with hd | ⟨hd, rfl⟩
      · go_wp2
        go_ret
        exact ⟨by rw [HE.out] <;> rfl, hbel⟩
      · go_wp2
        go_ret
        exact ⟨by rw [HE.out] <;> rfl, hbel⟩

theorem rget_round (s : ByteArray) (k : Nat) (h : k < s.size) (h8 : k < 8) :
    IntKind.u64.wrap (((getL (s.data.toList.take k) : Nat) : Int) + IntKind.u64.wrap (((p256 k : Nat) : Int) * IntKind.u64.wrap (s[k].toNat : Int))) = ((getL (s.data.toList.take (k + 1)) : Nat) : Int) := by
  have hl : k < s.data.toList.length := by simpa using h
  have e := getL_take_mul s.data.toList k hl
  have hb : s[k].toNat < 256 := s[k].toNat_lt
  have g := getL_take_lt s.data.toList (k + 1) (by omega)
  have es : s.data.toList[k] = s[k] := rfl
  rw [es] at e
  have w0 : IntKind.u64.wrap (s[k].toNat : Int) = (s[k].toNat : Int) := IntWalk.u64_in _ (by omega)
  have e' : getL (s.data.toList.take k) + p256 k * s[k].toNat = getL (s.data.toList.take (k + 1)) := e
  clear e
  rw [w0, ← Int.natCast_mul]
  generalize p256 k * s[k].toNat = z at *
  have w2 : IntKind.u64.wrap (z : Int) = (z : Int) := IntWalk.u64_in _ (by omega)
  rw [w2, IntWalk.u64_in _ (by omega)]
  omega

/-- The high j bits of a field, and the number above the bits still to come. -/
def topF (n : Nat) (m j : Nat) : Nat := n / 2 ^ m % 2 ^ j
def topW (r m : Nat) : Nat := r / 2 ^ m
theorem topF_step (n m j : Nat) (hj : j < 64) : IntKind.u64.wrap (IntKind.u64.wrap (2 * ((topF n (m + 1) j : Nat) : Int)) + ((bitN n m : Nat) : Int)) = ((topF n m (j + 1) : Nat) : Int) := by
  have e : 2 * topF n (m + 1) j + bitN n m = topF n m (j + 1) := by
    unfold topF bitN
    rw [Nat.pow_succ 2 m, ← Nat.div_div_eq_div_mul]
    exact bit_up _ _
  have hl : topF n m (j + 1) < 2 ^ (j + 1) := Nat.mod_lt _ (Nat.two_pow_pos _)
  have hl2 : (2 : Nat) ^ (j + 1) ≤ 2 ^ 64 := Nat.pow_le_pow_right (by omega) (by omega)
  rw [IntWalk.u64_in (2 * _) (by omega), IntWalk.u64_in _ (by omega)]
  omega
theorem topW_step (r m : Nat) (hr : r < 18446744073709551616) : IntKind.u64.wrap (IntKind.u64.wrap (2 * ((topW r (m + 1) : Nat) : Int)) + ((bitN r m : Nat) : Int)) = ((topW r m : Nat) : Int) := by
  have e : 2 * topW r (m + 1) + bitN r m = topW r m := by
    unfold topW bitN
    rw [Nat.pow_succ 2 m, ← Nat.div_div_eq_div_mul]
    exact bit_down _
  have hl : topW r m ≤ r := Nat.div_le_self _ _
  rw [IntWalk.u64_in (2 * _) (by omega), IntWalk.u64_in _ (by omega)]
  omega

end Go.Proofs.Ytpkhfdcokcchdaa

/-
  Layer 15: the reference's Text.
-/
namespace Go.Proofs.Ytpkhfdcokcchdaa
open Go.RowKit

theorem rputS4 (n : Nat) (S : ByteArray) (w : World) (hn : n < 18446744073709551616) (hS : S = ⟨(putL n 4).toArray⟩) :
    Calls Try.prog 97 #[.int .u64 n, .int .i64 4] w fun e w' => e = .returned (.string S) ∧ Below w.heap.size w w' := by
  subst hS
  exact rput_any n 4 w hn (by omega) (by omega)
theorem str_eq {a b : ByteArray} (h : a.data.toList = b.data.toList) : a = b := by
  apply ByteArray.ext
  exact Array.ext' h
theorem str_app (a b : ByteArray) : (a ++ b).data.toList = a.data.toList ++ b.data.toList := by
  rw [ByteArray.data_append, Array.toList_append]

set_option maxHeartbeats 1000000 in
set_option maxRecDepth 20000 in
theorem rtext_yes (l : List (Int × Int)) (L : Nat) (S : ByteArray) (ao : Option Addr) (cap : Nat) (w : World) (h : Rd2 w ao l) (hL : L = l.length) (hr : Right15 l) (hS : S.data.toList = bytP l) :
    Calls Try.prog 45 #[.slice ao L cap] w fun e w' => e = .returned (.string S) ∧ Gr [] w w' := by
  have HR := Lib.hid h
  have HL := Lib.hid hL
  have HX := Lib.hid hr
  have HS := Lib.hid hS
  have hL64 : L ≤ 64 := by rw [hL]; exact hr.1
  clear h hL hS hr
  go_enter Try.func45, Try.ntmps45
  go_wp2_with fail
  with_reducible refine (rright15_yes l L ao cap w HR.out HL.out HX.out).mono ?_
  rintro e w1 ⟨rfl, g1⟩
  have H1 := Lib.hid (And.intro (HR.out.gr0 g1) g1)
  clear g1 HR
  go_wp2_with fail
  go_loopw [4, 5] (fun v i wr => ∃ (k : Nat) (X : ByteArray), k ≤ L ∧ i = .int .i64 k ∧ v = .string X ∧ Hid (X.data.toList = bytP (l.take k)) ∧ Gr [] w1 wr) (fun _ i _ => L - (intOf i).toNat)
  case atStart => exact ⟨0, ⟨#[]⟩, by omega, rfl, rfl, Lib.hid rfl, Gr.refl _ _⟩
  case round =>
    obtain ⟨k, X, hk, rfl, rfl, HXS, G⟩ := hrel
    by_cases hkL : k < L
    · have hkL2 : (k : Int) < (L : Int) := by omega
      obtain ⟨⟨x1, x2⟩, hx⟩ : ∃ x, l[k]? = some x := ⟨_, List.getElem?_eq_getElem (by have := HL.out; omega)⟩
      obtain ⟨bk, o, hao, hbk, c1, c2⟩ := H1.out.1 k _ hx
      have y0 : wr.cell? ⟨bk, o + k * 2, none⟩ = some (.int .i64 x1) := (G.cell0 hbk).trans c1
      have hxb := HX.out.all _ (List.mem_of_getElem? hx)
      simp only at hxb
      have HST := Lib.hid (bytP_take hx)
      obtain ⟨n1, hn1⟩ : ∃ n1 : Nat, (n1 : Int) = x1 + 1 := ⟨(x1 + 1).toNat, by omega⟩
      obtain ⟨n2, hn2⟩ : ∃ n2 : Nat, (n2 : Int) = x2 := ⟨x2.toNat, by omega⟩
      have hrb : recB (x1, x2) = putL n1 4 ++ putL n2 4 := by
        unfold recB
        simp only
        rw [show (x1 + 1).toNat = n1 by omega, show x2.toNat = n2 by omega]
      rw [hrb] at HST
      have hw1 : IntKind.i64.wrap (x1 + 1) = x1 + 1 := IntWalk.i64_in _ (by omega)
      have hw2 : IntKind.u64.wrap (x1 + 1) = (n1 : Int) := by rw [hn1]; exact IntWalk.u64_in _ (by omega)
      have hw3 : IntKind.u64.wrap x2 = (n2 : Int) := by rw [hn2]; exact IntWalk.u64_in _ (by omega)
      have hn1b : n1 < 18446744073709551616 := by omega
      have hn2b : n2 < 18446744073709551616 := by omega
      have hsX : X.size ≤ 1000 := by
        rw [Lib.size_eq, HXS.out, bytP_len, List.length_take]; omega
      obtain ⟨S1, hS1⟩ : ∃ S : ByteArray, S = ⟨(putL n1 4).toArray⟩ := ⟨_, rfl⟩
      obtain ⟨S2, hS2⟩ : ∃ S : ByteArray, S = ⟨(putL n2 4).toArray⟩ := ⟨_, rfl⟩
      have HP1 := Lib.hid (fun W => rputS4 n1 S1 W hn1b hS1)
      have HP2 := Lib.hid (fun W => rputS4 n2 S2 W hn2b hS2)
      have HS1 := Lib.hid (show S1.data.toList = putL n1 4 by rw [hS1])
      have HS2 := Lib.hid (show S2.data.toList = putL n2 4 by rw [hS2])
      have hz1 : S1.size = 4 := by rw [Lib.size_eq, HS1.out, putL_length]
      have hz2 : S2.size = 4 := by rw [Lib.size_eq, HS2.out, putL_length]
      have HY := Lib.hid (And.intro hbk c2)
      have HG := Lib.hid G
      subst hao
      clear c1 c2 hx hrb G hS1 hS2 hn1 hn2 hxb hn1b hn2b hbk
      go_wp2_with fail
      with_reducible refine (HP1.out _).mono ?_
      rintro e w3 ⟨rfl, g3⟩
      have HG3 := Lib.hid (HG.out.nextB g3)
      have y1 : w3.cell? ⟨bk, o + k * 2 + 1, none⟩ = some (.int .i64 x2) := (HG3.out.cell0 HY.out.1).trans HY.out.2
      clear g3 HG y0
      go_wp2_with fail
      with_reducible refine (HP2.out _).mono ?_
      rintro e w4 ⟨rfl, g4⟩
      have HG4 := Lib.hid (HG3.out.nextB g4)
      clear g4 HG3 y1
      obtain ⟨Y, hY⟩ : ∃ Y, Y = X ++ S1 := ⟨_, rfl⟩
      obtain ⟨Z, hZ⟩ : ∃ Z, Z = Y ++ S2 := ⟨_, rfl⟩
      have hq1 := fun (W : World) => (run_string_add_sum (P := Try.prog) (w := W) X S1 (by omega)).trans (by rw [← hY])
      have hq2 := fun (W : World) => (run_string_add_sum (P := Try.prog) (w := W) Y S2 (by rw [hY, ByteArray.size_append]; omega)).trans (by rw [← hZ])
      have HZ := Lib.hid (show Z.data.toList = bytP (l.take (k + 1)) by
        rw [hZ, str_app, hY, str_app, HXS.out, HS1.out, HS2.out, HST.out, List.append_assoc])
      clear hY hZ
      go_wp2_with fail
      go_roundw
      case rel => exact ⟨k + 1, Z, by omega, by go_num, rfl, HZ, HG4.out⟩
      case measure => simp [intOf]; omega
    · obtain rfl : k = L := by omega
      have ht : l.take k = l := by rw [HL.out]; exact List.take_length
      rw [ht] at HXS
      obtain rfl : X = S := str_eq (by rw [HXS.out, HS.out])
      have HF := Lib.hid (H1.out.2.next0 G)
      clear G
      go_wp2_with fail
      go_ret
      exact ⟨rfl, HF.out⟩
theorem rtext_no (l : List (Int × Int)) (L : Nat) (ao : Option Addr) (cap : Nat) (w : World) (h : Rd2 w ao l) (hL : L = l.length) (hr : ¬ Right15 l) :
    Calls Try.prog 45 #[.slice ao L cap] w fun e w' => e = .returned (.string ⟨#[]⟩) ∧ Gr [] w w' := by
  have HC := Lib.hid (rright15_no l L ao cap w h hL hr)
  clear h hL hr
  go_enter Try.func45, Try.ntmps45
  go_wp2_with fail
  with_reducible refine HC.out.mono ?_
  rintro e w1 ⟨rfl, g1⟩
  have H1 := Lib.hid g1
  clear g1
  go_wp2_with fail
  go_loopw [4, 5] (fun v i wr => v = .string ⟨#[]⟩ ∧ i = .int .i64 0 ∧ wr = w1) (fun _ _ _ => 0)
  case atStart => exact ⟨rfl, rfl, rfl⟩
  case round =>
    obtain ⟨rfl, rfl, rfl⟩ := hrel
    by_cases hk : 0 < L
    · have hk2 : (0 : Int) < (L : Int) := by omega
      go_wp2_with fail
      go_ret
      exact ⟨rfl, H1.out⟩
    · obtain rfl : L = 0 := by omega
      go_wp2_with fail
      go_ret
      exact ⟨rfl, H1.out⟩

end Go.Proofs.Ytpkhfdcokcchdaa

/-
  Layer 15: how many of a list's blocks there are; Map of any number.
-/
namespace Go.Proofs.Ytpkhfdcokcchdaa
open Go.RowKit

def posB : List Int → Int
  | [] => 0
  | x :: r => (if 0 ≤ x then 1 else 0) + posB r
theorem posB_append (A B : List Int) : posB (A ++ B) = posB A + posB B := by
  induction A with
  | nil => simp [posB]
  | cons x r ih => simp only [List.cons_append, posB, ih]; omega
theorem posB_take {b : List Int} {k : Nat} {x : Int} (h : b[k]? = some x) : posB (b.take (k + 1)) = posB (b.take k) + (if 0 ≤ x then 1 else 0) := by
  obtain ⟨a, c⟩ := List.getElem?_eq_some_iff.1 h
  rw [List.take_succ_eq_append_getElem a, c, posB_append]
  simp [posB]
theorem posB_bd (b : List Int) : 0 ≤ posB b ∧ posB b ≤ b.length := by
  induction b with
  | nil => simp [posB]
  | cons x r ih =>
    simp only [posB, List.length_cons]
    split <;> omega
theorem posB_run (a : Int) (n : Nat) (ha : -1 ≤ a) : posB (blkR (a, (n : Int))) = if a = -1 then 0 else (n : Int) := by
  induction n with
  | zero => simp [blkR, posB]
  | succ n ih =>
    rw [show ((n + 1 : Nat) : Int) = (n : Int) + 1 by omega, blkR_up, posB_append, ih]
    simp only [posB]
    by_cases q : a = -1
    · simp [q]
    · rw [if_neg q, if_neg q, if_neg q, if_pos (by omega)]; omega
theorem posB_blk {l : List (Int × Int)} (h : ∀ e ∈ l, -1 ≤ e.1 ∧ 1 ≤ e.2) : posB (blk l) = heldZ l := by
  induction l with
  | nil => rfl
  | cons e r ih =>
    have h1 := h e (by simp)
    obtain ⟨a, n⟩ := e
    simp only at h1
    obtain ⟨k, rfl⟩ : ∃ k : Nat, n = (k : Int) := ⟨n.toNat, by omega⟩
    rw [blk_cons, posB_append, posB_run a k h1.1, ih (fun x hx => h x (by simp [hx]))]
    rfl

theorem emap_nega (L : Nat) (i : Int) (ao : Option Addr) (cap : Nat) (w : World) (hi : i < 0) :
    Calls Try.prog 48 #[.slice ao L cap, .int .i64 i] w fun e w' => e = .returned (.tuple #[.int .i64 0, .bool false]) ∧ Gr [] w w' := by
  have HG := Lib.hid (Gr.refl [] w)
  go_enter Try.func48, Try.ntmps48
  go_wp2_with fail
  exact bodyPost_ret (v := .tuple #[.int .i64 0, .bool false]) (by simp [results, Try.results48, go_sem]) rfl ⟨rfl, HG.out⟩
/-- Where a block is: any number. -/
def mapO (b : List Int) (i : Int) : Int × Bool := if 0 ≤ i then (match b[i.toNat]? with | some x => (x, true) | none => (0, false)) else (0, false)
theorem emap_O (l : List (Int × Int)) (L : Nat) (i : Int) (ao : Option Addr) (cap : Nat) (w : World) (h : Rd2 w ao l) (hL : L = l.length) (hs : smallP l) (hi : i ≤ 9223372036854775807) :
    Calls Try.prog 48 #[.slice ao L cap, .int .i64 i] w fun e w' => e = .returned (.tuple #[.int .i64 (mapO (blk l) i).1, .bool (mapO (blk l) i).2]) ∧ Gr [] w w' := by
  by_cases h0 : 0 ≤ i
  · obtain ⟨k, rfl⟩ := Int.eq_ofNat_of_zero_le h0
    refine (emap_any l L k ao cap w h hL hs (by omega)).mono ?_
    rintro e w' ⟨g, ⟨x, hx, rfl⟩ | ⟨hx, rfl⟩⟩
    · unfold mapO; rw [if_pos h0, Int.toNat_natCast, hx]; exact ⟨rfl, g⟩
    · unfold mapO; rw [if_pos h0, Int.toNat_natCast, hx]; exact ⟨rfl, g⟩
  · refine (emap_nega L i ao cap w (by omega)).mono ?_
    rintro e w' ⟨rfl, g⟩
    unfold mapO; rw [if_neg h0]; exact ⟨rfl, g⟩
theorem mapO_some {b : List Int} {k : Nat} {x : Int} (h : b[k]? = some x) : mapO b (k : Int) = (x, true) := by
  unfold mapO; rw [if_pos (by omega), Int.toNat_natCast, h]
theorem mapO_none {b : List Int} {i : Int} (h : i < 0 ∨ (b.length : Int) ≤ i) : mapO b i = (0, false) := by
  unfold mapO
  by_cases h0 : 0 ≤ i
  · rw [if_pos h0, List.getElem?_eq_none (by omega)]
  · rw [if_neg h0]
theorem map_out (l : List (Int × Int)) (L : Nat) (i : Int) (ao : Option Addr) (cap : Nat) (w : World) (h : Rd2 w ao l) (hL : L = l.length) (hs : smallP l) (hi : i ≤ 9223372036854775807) (ho : i < 0 ∨ ((blk l).length : Int) ≤ i) :
    Calls Try.prog 48 #[.slice ao L cap, .int .i64 i] w fun e w' => e = .returned (.tuple #[.int .i64 0, .bool false]) ∧ Gr [] w w' := by
  have q := emap_O l L i ao cap w h hL hs hi
  rw [mapO_none ho] at q
  exact q

end Go.Proofs.Ytpkhfdcokcchdaa
