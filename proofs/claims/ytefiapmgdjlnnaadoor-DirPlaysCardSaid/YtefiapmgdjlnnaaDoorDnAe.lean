/-
  Contracts of the reference functions of layer 1: each returns what the plain functions compute.
-/
import Derived.Test.YtefiapmgdjlnnaaDoorDnAd

namespace Go.Proofs.YtefiapmgdjlnnaaDoor
open Go.RowKit

def byteV (b : UInt8) : Value := .int .u8 (b.toNat : Int)
theorem infoU8 : (Tryd.prog.info? 5).map (fun i => (i.zero, i.size, i.bytes)) = some (some (.int .u8 0), 1, 1) := by kernel_rfl

/-- A slice of bytes that the call owns, as a string. -/
theorem own_conv {w : World} {B n : Nat} {v : Value} {l : List UInt8} (h : w.ownsRow B 5 1 v n (l.map byteV)) :
    (convert 81 9 v).run Tryd.prog w = .ok (.string ⟨l.toArray⟩) w := by
  have hl : l.length = n := by simpa using h.1
  rcases h.2 with ⟨rfl, hn⟩ | ⟨g, cap, cur, rfl, _, hg, hle, _, hs, htake⟩
  · have : l = [] := List.length_eq_zero_iff.1 (by omega)
    subst this
    have e := run_convert_bytes_string (P := Tryd.prog) w 81 9 5 none 0 0 Tryd.underlying81 Tryd.underlying5 Tryd.underlying9
    rw [e]
    rfl
  · subst hl
    have e := run_convert_bytes_back (P := Tryd.prog) w 81 9 5 ⟨g, 0, none⟩ cap l Tryd.underlying81 Tryd.underlying5 Tryd.underlying9 (fun i hi => by
      have hc : w.cell? (Addr.add ⟨g, 0, none⟩ i) = cur[i]? := by
        have := cell_of_row w g i cur 5 (0, 0) hg
        unfold Addr.add
        split
        · rename_i h0; subst h0; exact this
        · simp [this]
      rw [hc]
      have h1 : (cur.toList.take (l.length * 1))[i]? = (l.map byteV)[i]? := by rw [htake]
      rw [List.getElem?_take_of_lt (by omega)] at h1
      simp [List.getElem?_eq_getElem hi] at h1
      rw [h1]; rfl)
    exact e

theorem putL_div (n k : Nat) : putL n (k + 1) = putL n k ++ [UInt8.ofNat (n / 256 ^ k % 256)] := putL_succ n k

set_option maxHeartbeats 1000000 in
set_option maxRecDepth 20000 in
theorem rput_any (n : Nat) (k : Int) (w : World) (hn : n < 18446744073709551616) (h0 : -9223372036854775808 ≤ k) (h1 : k ≤ 9223372036854775807) :
    Calls Tryd.prog 33 #[.int .u64 n, .int .i64 k] w fun e w' => e = .returned (.string ⟨(putL n (clamp8 k)).toArray⟩) ∧ Below w.heap.size w w' := by
  obtain ⟨i0, hi, hz0, hz1, hz2⟩ := info_parts infoU8
  have hc8 : clamp8 k = min k.toNat 8 := rfl
  have HC := Lib.hid hc8
  clear hc8
  go_enter Tryd.func33, Tryd.ntmps33
  go_wp2
  go_loopw [0, 5, 6] (fun q v i wr => ∃ j : Nat, j ≤ clamp8 k ∧ i = .int .i64 j ∧ q = .int .u64 (n / 256 ^ j : Nat) ∧ wr.ownsRow w.heap.size 5 1 v j ((putL n j).map byteV) ∧ Below w.heap.size w wr)
      (fun _ _ i _ => 8 - (intOf i).toNat)
  case atStart => exact ⟨0, by omega, rfl, by simp, World.ownsRow_nil _ _ _ _, Below.refl _ _⟩
  case round =>
    obtain ⟨j, hj, rfl, rfl, hown, hbel⟩ := hrel
    have hq : n / 256 ^ j < 18446744073709551616 := Nat.lt_of_le_of_lt (Nat.div_le_self _ _) hn
    have hcell : byteV (UInt8.ofNat (n / 256 ^ j % 256)) = .int .u8 ((n / 256 ^ j : Nat) % 256 : Int) := by
      unfold byteV; simp
    have HB := Lib.hid hcell
    have hdiv : ((n / 256 ^ j : Nat) : Int) / 256 = ((n / 256 ^ (j + 1) : Nat) : Int) := by
      rw [Nat.pow_succ, ← Nat.div_div_eq_div_mul]; rfl
    have HD := Lib.hid hdiv
    clear hcell hdiv
    generalize hqq : n / 256 ^ j = q at *
    have HQ := Lib.hid hqq
    clear hqq
    by_cases hlt : j < clamp8 k
    · have hk1 : (j : Int) < k := by have := HC.out; omega
      have hk2 : j < 8 := by have := HC.out; omega
      go_wp2_with (first
        | (at_builtin; refine wpList_append_own _ rfl _ _ 81 rfl w.heap.size 5 i0 (.int .u8 0) 1 1 Tryd.underlying81 hi hz0 hz1 hz2 rfl (by decide) _ _ _ rfl (hown.alloc _) ⟨wr.heap.size, 0, none⟩ 1 1 [.int .u8 ((q : Int) % 256)] rfl rfl ?c1 ?c2 ?c3 ?c4 ?c5 ?_))
      case c1 =>
        intro a u ha
        match a, ha with
        | 0, ha => simp at ha; subst ha; simp [Addr.add]
      case c2 => intro u hu; simp at hu; subst hu; rfl
      case c3 => unfold maxLen; omega
      case c4 => omega
      case c5 => have := hbel.size; simp; omega
      intro v' w1 hown' hgrow _
      have hrel' : w1.ownsRow w.heap.size 5 1 v' (j + 1) ((putL n (j + 1)).map byteV) ∧ Below w.heap.size w w1 := by
        refine ⟨?_, (hbel.alloc hbel.size _).grown hgrow (by have := hbel.size; simp; omega) (fun g hg => (hown.lt g hg).1)⟩
        rw [putL_div, HQ.out, List.map_append, List.map_cons, List.map_nil, HB.out]
        exact hown'
      clear hown' hgrow hown hbel
      have HR := Lib.hid hrel'
      clear hrel'
      go_wp2
      go_roundw
      case rel => exact ⟨j + 1, by omega, by go_num, by rw [HD.out], HR.out.1, HR.out.2⟩
      case measure => simp [intOf]; omega
    · have hej : j = clamp8 k := by omega
      have hfin := own_conv hown
      have hd : ¬ ((j : Int) < k) ∨ ((j : Int) < k ∧ j = 8) := by have := HC.out; omega
      have HE := Lib.hid hej
      clear hej hj hlt
      rcases hd with hd | ⟨hd, rfl⟩
      · go_wp2
        go_ret
        exact ⟨by rw [HE.out] <;> rfl, hbel⟩
      · go_wp2
        go_ret
        exact ⟨by rw [HE.out] <;> rfl, hbel⟩

end Go.Proofs.YtefiapmgdjlnnaaDoor
