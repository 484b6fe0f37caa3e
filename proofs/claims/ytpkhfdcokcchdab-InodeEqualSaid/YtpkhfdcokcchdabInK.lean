/-
  Layer 16: the document's Text of any inode.
-/
import Derived.Test.YtpkhfdcokcchdabInJ
namespace Go.Proofs.Ytpkhfdcokcchdab
open Go.RowKit

theorem conv1s (k : Nat) (S : ByteArray) (W : World) (b : Nat) (hk : k < 256) (hS : S.data.toList = putL k 1) (h : W.cell? ⟨b, 0, none⟩ = some (.int .u8 (k : Int))) :
    (convert 70 9 (.slice (some ⟨b, 0, none⟩) 1 1)).run Try.prog W = .ok (.string S) W := by
  obtain rfl : S = ⟨#[UInt8.ofNat k]⟩ := str_eq (by rw [hS, putL_succ k 0]; simp [putL, Nat.mod_eq_of_lt hk])
  exact run_convert_bytes_back (P := Try.prog) W 70 9 5 ⟨b, 0, none⟩ 1 [UInt8.ofNat k] Try.underlying70 Try.underlying5 Try.underlying9 (fun j hj => by
    obtain rfl : j = 0 := by simp at hj; omega
    show W.cell? ⟨b, 0, none⟩ = _
    rw [h]
    simp [Nat.mod_eq_of_lt hk])
theorem rput_is (n : Nat) (k : Int) (j : Nat) (L : ByteArray) (w : World) (hn : n < 18446744073709551616) (hj : clamp8 k = j) (hk : 0 ≤ k ∧ k ≤ 8) (hL : L.data.toList = putL n j) :
    Calls Try.prog 39 #[.int .u64 n, .int .i64 k] w fun e w' => e = .returned (.string L) ∧ Below w.heap.size w w' := by
  obtain rfl : L = ⟨(putL n j).toArray⟩ := str_eq hL
  have q := rput_any n k w hn (by omega) (by omega)
  rw [hj] at q
  exact q

set_option maxHeartbeats 4000000 in
set_option maxRecDepth 20000 in
theorem rtext16_yes (k : Nat) (l s : Int) (b : List (Int × Int)) (t S : ByteArray) (n : Int) (B : Nat) (ao : Option Addr) (cap : Nat) (w : World) (hv : Rd2 w ao b) (hB : B = b.length) (h : Right16 k l s b t) (hn0 : 0 ≤ n) (hn1 : n ≤ 65535) (hS : S.data.toList = txtL k l s b t n) :
    Calls Try.prog 17 #[.agg #[.int .u8 k, .int .i64 l, .int .i64 s, .slice ao B cap, .string t], .int .i64 n] w fun e w' => e = .returned (.string S) ∧ Gr [] w w' := by
  obtain ⟨f1, f2, f3, f4, f5, f6, f7⟩ := r16_facts h
  have HG := Lib.hid ((Gr.refl [] w).alloc (Obj.cells #[.int .u8 k, .int .i64 l, .int .i64 s, .slice ao B cap, .string t] 33))
  have HI := Lib.hid (Holds.new w #[.int .u8 k, .int .i64 l, .int .i64 s, .slice ao B cap, .string t] 33)
  have HR := Lib.hid (rright16_yes k l s b t B ao cap _ (hv.gr0 HG.out) (by unfold maxLen; omega) hB h)
  obtain ⟨n0, hn⟩ : ∃ n0 : Nat, (n0 : Int) = n := ⟨n.toNat, by omega⟩
  obtain ⟨l0, hl⟩ : ∃ l0 : Nat, (l0 : Int) = l := ⟨l.toNat, by omega⟩
  obtain ⟨s0, hs⟩ : ∃ s0 : Nat, (s0 : Int) = s := ⟨s.toNat, by omega⟩
  subst hn hl hs
  have u1 : IntKind.u64.wrap (n0 : Int) = n0 := IntWalk.u64_in _ (by omega)
  have u2 : IntKind.u64.wrap (k : Int) = k := IntWalk.u64_in _ (by omega)
  have u3 : IntKind.u64.wrap (l0 : Int) = l0 := IntWalk.u64_in _ (by omega)
  have u4 : IntKind.u64.wrap (s0 : Int) = s0 := IntWalk.u64_in _ (by omega)
  obtain ⟨S1, hS1⟩ := mkS (putL n0 2)
  obtain ⟨S2, hS2⟩ := mkS (putL k 1)
  obtain ⟨S3, hS3⟩ := mkS (putL l0 2)
  obtain ⟨S4, hS4⟩ := mkS (putL s0 4)
  obtain ⟨S5, hS5⟩ := mkS (bytP b)
  obtain ⟨T1, hT1⟩ : ∃ T, T = S1 ++ S2 := ⟨_, rfl⟩
  obtain ⟨T2, hT2⟩ : ∃ T, T = T1 ++ S3 := ⟨_, rfl⟩
  obtain ⟨T3, hT3⟩ : ∃ T, T = T2 ++ S4 := ⟨_, rfl⟩
  obtain ⟨T4, hT4⟩ : ∃ T, T = T3 ++ S5 := ⟨_, rfl⟩
  have hT5 : T4 ++ t = S := str_eq (by
    rw [hT4, hT3, hT2, hT1, str_app, str_app, str_app, str_app, str_app, hS1, hS2, hS3, hS4, hS5, hS]
    unfold txtL
    simp [List.append_assoc])
  have z1 : S1.size = 2 := by rw [Lib.size_eq, hS1, putL_length]
  have z2 : S2.size = 1 := by rw [Lib.size_eq, hS2, putL_length]
  have z3 : S3.size = 2 := by rw [Lib.size_eq, hS3, putL_length]
  have z4 : S4.size = 4 := by rw [Lib.size_eq, hS4, putL_length]
  have z5 : S5.size ≤ 512 := by rw [Lib.size_eq, hS5, bytP_len]; have := f7.1; omega
  have y1 : T1.size = 3 := by rw [hT1, ByteArray.size_append]; omega
  have y2 : T2.size = 5 := by rw [hT2, ByteArray.size_append]; omega
  have y3 : T3.size = 9 := by rw [hT3, ByteArray.size_append]; omega
  have y4 : T4.size ≤ 521 := by rw [hT4, ByteArray.size_append]; omega
  have a1 := fun (W : World) => (run_string_add_sum (P := Try.prog) (w := W) S1 S2 (by omega)).trans (by rw [← hT1])
  have a2 := fun (W : World) => (run_string_add_sum (P := Try.prog) (w := W) T1 S3 (by omega)).trans (by rw [← hT2])
  have a3 := fun (W : World) => (run_string_add_sum (P := Try.prog) (w := W) T2 S4 (by omega)).trans (by rw [← hT3])
  have a4 := fun (W : World) => (run_string_add_sum (P := Try.prog) (w := W) T3 S5 (by omega)).trans (by rw [← hT4])
  have a5 := fun (W : World) => (run_string_add_sum (P := Try.prog) (w := W) T4 t (by omega)).trans (by rw [hT5])
  have HS := Lib.hid (And.intro hS1 (And.intro hS2 (And.intro hS3 (And.intro hS4 hS5))))
  have HV := Lib.hid (And.intro (hv.gr0 HG.out) (And.intro hB f7))
  clear hS1 hS2 hS3 hS4 hS5 hT1 hT2 hT3 hT4 hT5 hv hB h hS f7 z1 z2 z3 z4 z5 y1 y2 y3 y4
  have P1 := Lib.hid (fun x => rput_is n0 2 2 S1 x (by omega) rfl (by omega) HS.out.1)
  have P3 := Lib.hid (fun x => rput_is l0 2 2 S3 x (by omega) rfl (by omega) HS.out.2.2.1)
  have P4 := Lib.hid (fun x => rput_is s0 4 4 S4 x (by omega) rfl (by omega) HS.out.2.2.2.1)
  have hk256 : k < 256 := by omega
  go_enter Try.func17, Try.ntmps17
  go_wp2_with fail
  with_reducible refine HR.out.mono ?_
  rintro e w1 ⟨rfl, g1⟩
  have HG1 := Lib.hid (And.intro (HI.out.gr0 g1) (And.intro (HV.out.1.gr0 g1) (HG.out.next0 g1)))
  clear g1 HG HI HR
  obtain ⟨bx, hb⟩ : ∃ b, w.heap.size = b := ⟨_, rfl⟩
  rw [hb] at HG1 ⊢
  clear hb
  go_wp2_with fail
  with_reducible refine (P1.out _).mono ?_
  rintro e w2 ⟨rfl, g2⟩
  have HG2 := Lib.hid (And.intro (HG1.out.1.below g2) (And.intro (HG1.out.2.1.below g2) (HG1.out.2.2.nextB g2)))
  clear g2 HG1
  have i0 := HG2.out.1.cell 0
  have i1 := HG2.out.1.cell 1
  go_wp2_with fail
  with_reducible refine (P3.out _).mono ?_
  rintro e w3 ⟨rfl, g3⟩
  have HG3 := Lib.hid (And.intro (HG2.out.1.below g3) (And.intro (HG2.out.2.1.below g3) (HG2.out.2.2.nextB g3)))
  clear g3 HG2 i0 i1
  have i0 := HG3.out.1.cell 0
  have i2 := HG3.out.1.cell 2
  go_wp2_with fail
  with_reducible refine (P4.out _).mono ?_
  rintro e w4 ⟨rfl, g4⟩
  have HG4 := Lib.hid (And.intro (HG3.out.1.below g4) (And.intro (HG3.out.2.1.below g4) (HG3.out.2.2.nextB g4)))
  clear g4 HG3 i0 i2
  have i0 := HG4.out.1.cell 0
  have i3 := HG4.out.1.cell 3
  go_wp2_with fail
  with_reducible refine (rtext_yes b B S5 ao cap w4 HG4.out.2.1 HV.out.2.1 HV.out.2.2 HS.out.2.2.2.2).mono ?_
  rintro e w5 ⟨rfl, g5⟩
  have HG5 := Lib.hid (And.intro (HG4.out.1.gr0 g5) (HG4.out.2.2.next0 g5))
  clear g5 HG4 i0 i3
  have hc2 := conv1s k S2 (w5.alloc (Obj.cells #[.int .u8 k] 5)) w5.heap.size hk256 HS.out.2.1 ((Holds.new w5 #[.int .u8 k] 5).cell 0)
  have HN := Lib.hid (And.intro (HG5.out.1.alloc (Obj.cells #[.int .u8 k] 5)) (HG5.out.2.alloc (Obj.cells #[.int .u8 k] 5)))
  have i0 := HG5.out.1.cell 0
  have j0 := HN.out.1.cell 0
  have i4 := HN.out.1.cell 4
  go_wp2_with fail
  go_ret
  exact ⟨rfl, HN.out.2⟩
theorem rtext16_no (k : Nat) (l s : Int) (b : List (Int × Int)) (t : ByteArray) (n : Int) (B : Nat) (ao : Option Addr) (cap : Nat) (w : World) (hv : Rd2 w ao b) (hm : t.size ≤ maxLen) (hB : B = b.length) (h : ¬ (Right16 k l s b t ∧ 0 ≤ n ∧ n ≤ 65535)) :
    Calls Try.prog 17 #[.agg #[.int .u8 k, .int .i64 l, .int .i64 s, .slice ao B cap, .string t], .int .i64 n] w fun e w' => e = .returned (.string ⟨#[]⟩) ∧ Gr [] w w' := by
  have HG := Lib.hid ((Gr.refl [] w).alloc (Obj.cells #[.int .u8 k, .int .i64 l, .int .i64 s, .slice ao B cap, .string t] 33))
  by_cases hr : Right16 k l s b t
  · have HR := Lib.hid (rright16_yes k l s b t B ao cap _ (hv.gr0 HG.out) hm hB hr)
    have hn : n < 0 ∨ (0 ≤ n ∧ 65535 < n) := by
      by_cases h1 : n < 0
      · exact .inl h1
      · by_cases h2 : 65535 < n
        · exact .inr ⟨by omega, h2⟩
        · exact absurd ⟨hr, by omega, by omega⟩ h
    clear hB h hv hr
    rcases hn with h1 | ⟨h1, h2⟩
    all_goals
      go_enter Try.func17, Try.ntmps17
      go_wp2_with fail
      with_reducible refine HR.out.mono ?_
      rintro e w1 ⟨rfl, g1⟩
      have HG1 := Lib.hid (HG.out.next0 g1)
      clear g1 HG HR
      go_wp2_with fail
      go_ret
      exact ⟨rfl, HG1.out⟩
  · have HR := Lib.hid (rright16_no k l s b t B ao cap _ (hv.gr0 HG.out) hm hB hr)
    clear hB h hv hr
    go_enter Try.func17, Try.ntmps17
    go_wp2_with fail
    with_reducible refine HR.out.mono ?_
    rintro e w1 ⟨rfl, g1⟩
    have HG1 := Lib.hid (HG.out.next0 g1)
    clear g1 HG HR
    go_wp2_with fail
    go_ret
    exact ⟨rfl, HG1.out⟩

end Go.Proofs.Ytpkhfdcokcchdab
