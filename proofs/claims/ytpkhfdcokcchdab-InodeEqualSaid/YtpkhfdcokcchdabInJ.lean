/-
  Layer 16: the program's Text of any inode.
-/
import Derived.Test.YtpkhfdcokcchdabInI
namespace Go.Proofs.Ytpkhfdcokcchdab
open Go.RowKit

def txtL (k : Nat) (l s : Int) (b : List (Int × Int)) (t : ByteArray) (n : Int) : List UInt8 :=
  putL n.toNat 2 ++ (putL k 1 ++ (putL l.toNat 2 ++ (putL s.toNat 4 ++ (bytP b ++ t.data.toList))))
theorem right15_nil : Right15 [] := ⟨by simp, ⟨fun e he => by simp at he, by simp [apartP]⟩, by simp [sumZ]⟩
theorem r16_facts {k : Nat} {l s : Int} {b : List (Int × Int)} {t : ByteArray} (h : Right16 k l s b t) : k ≤ 3 ∧ 0 ≤ l ∧ l ≤ 1000 ∧ 0 ≤ s ∧ s ≤ 4194304 ∧ t.size ≤ 256 ∧ Right15 b := by
  obtain ⟨h1, h2, ⟨hk, h3, h4, h5, h6, _⟩ | ⟨hk, h3, h4, h5⟩ | ⟨hk, h3, h4, _, h5, h6⟩⟩ := h
  · exact ⟨by omega, h1, h2, h3, h4, by omega, h6⟩
  · exact ⟨by omega, h1, h2, by omega, by omega, by omega, by rw [List.length_eq_zero_iff.1 h4]; exact right15_nil⟩
  · exact ⟨by omega, h1, h2, by omega, by omega, h4, by rw [List.length_eq_zero_iff.1 h6]; exact right15_nil⟩
theorem put_is (n : Nat) (k : Int) (j : Nat) (L : ByteArray) (w : World) (hn : n < 18446744073709551616) (hj : clamp8 k = j) (hL : L.data.toList = putL n j) :
    Calls Try.prog 37 #[.int .u64 n, .int .i64 k] w fun e w' => e = .returned (.string L) ∧ Below w.heap.size w w' :=
  put_lit n k L w hn (by rw [hj]; exact str_eq hL.symm)
theorem mkS (l : List UInt8) : ∃ S : ByteArray, S.data.toList = l := ⟨⟨l.toArray⟩, rfl⟩

set_option maxHeartbeats 4000000 in
set_option maxRecDepth 20000 in
theorem itext_yes (k : Nat) (l s : Int) (b : List (Int × Int)) (t S : ByteArray) (n : Int) (B : Nat) (ao : Option Addr) (cap : Nat) (w : World) (hv : Rd2 w ao b) (hB : B = b.length) (h : Right16 k l s b t) (hn0 : 0 ≤ n) (hn1 : n ≤ 65535) (hS : S.data.toList = txtL k l s b t n) :
    Calls Try.prog 16 #[.agg #[.int .u8 k, .int .i64 l, .int .i64 s, .slice ao B cap, .string t], .int .i64 n] w fun e w' => e = .returned (.string S) ∧ Gr [] w w' := by
  obtain ⟨f1, f2, f3, f4, f5, f6, f7⟩ := r16_facts h
  have HG := Lib.hid ((Gr.refl [] w).alloc (Obj.cells #[.int .u8 k, .int .i64 l, .int .i64 s, .slice ao B cap, .string t] 31))
  have HI := Lib.hid (Holds.new w #[.int .u8 k, .int .i64 l, .int .i64 s, .slice ao B cap, .string t] 31)
  have HR := Lib.hid (iright_yes k l s b t B ao cap _ (hv.gr0 HG.out) hB h)
  obtain ⟨n0, hn⟩ : ∃ n0 : Nat, (n0 : Int) = n := ⟨n.toNat, by omega⟩
  obtain ⟨l0, hl⟩ : ∃ l0 : Nat, (l0 : Int) = l := ⟨l.toNat, by omega⟩
  obtain ⟨s0, hs⟩ : ∃ s0 : Nat, (s0 : Int) = s := ⟨s.toNat, by omega⟩
  subst hn hl hs
  have u1 : IntKind.u64.wrap (n0 : Int) = n0 := IntWalk.u64_in _ (by omega)
  have u2 : IntKind.u64.wrap (k : Int) = k := IntWalk.u64_in _ (by omega)
  have u3 : IntKind.u64.wrap (l0 : Int) = l0 := IntWalk.u64_in _ (by omega)
  have u4 : IntKind.u64.wrap (s0 : Int) = s0 := IntWalk.u64_in _ (by omega)
  obtain ⟨S1, hS1⟩ := mkS (putL n0 2)
  obtain ⟨S2, hS2⟩ := mkS (putL k 1)
  obtain ⟨S3, hS3⟩ := mkS (putL l0 2)
  obtain ⟨S4, hS4⟩ := mkS (putL s0 4)
  obtain ⟨S5, hS5⟩ := mkS (bytP b)
  obtain ⟨T1, hT1⟩ : ∃ T, T = S1 ++ S2 := ⟨_, rfl⟩
  obtain ⟨T2, hT2⟩ : ∃ T, T = T1 ++ S3 := ⟨_, rfl⟩
  obtain ⟨T3, hT3⟩ : ∃ T, T = T2 ++ S4 := ⟨_, rfl⟩
  obtain ⟨T4, hT4⟩ : ∃ T, T = T3 ++ S5 := ⟨_, rfl⟩
  have hT5 : T4 ++ t = S := str_eq (by
    rw [hT4, hT3, hT2, hT1, str_app, str_app, str_app, str_app, str_app, hS1, hS2, hS3, hS4, hS5, hS]
    unfold txtL
    simp [List.append_assoc])
  have z1 : S1.size = 2 := by rw [Lib.size_eq, hS1, putL_length]
  have z2 : S2.size = 1 := by rw [Lib.size_eq, hS2, putL_length]
  have z3 : S3.size = 2 := by rw [Lib.size_eq, hS3, putL_length]
  have z4 : S4.size = 4 := by rw [Lib.size_eq, hS4, putL_length]
  have z5 : S5.size ≤ 512 := by rw [Lib.size_eq, hS5, bytP_len]; have := f7.1; omega
  have y1 : T1.size = 3 := by rw [hT1, ByteArray.size_append]; omega
  have y2 : T2.size = 5 := by rw [hT2, ByteArray.size_append]; omega
  have y3 : T3.size = 9 := by rw [hT3, ByteArray.size_append]; omega
  have y4 : T4.size ≤ 521 := by rw [hT4, ByteArray.size_append]; omega
  have a1 := fun (W : World) => (run_string_add_sum (P := Try.prog) (w := W) S1 S2 (by omega)).trans (by rw [← hT1])
  have a2 := fun (W : World) => (run_string_add_sum (P := Try.prog) (w := W) T1 S3 (by omega)).trans (by rw [← hT2])
  have a3 := fun (W : World) => (run_string_add_sum (P := Try.prog) (w := W) T2 S4 (by omega)).trans (by rw [← hT3])
  have a4 := fun (W : World) => (run_string_add_sum (P := Try.prog) (w := W) T3 S5 (by omega)).trans (by rw [← hT4])
  have a5 := fun (W : World) => (run_string_add_sum (P := Try.prog) (w := W) T4 t (by omega)).trans (by rw [hT5])
  have HS := Lib.hid (And.intro hS1 (And.intro hS2 (And.intro hS3 (And.intro hS4 hS5))))
  have HV := Lib.hid (And.intro (hv.gr0 HG.out) (And.intro hB f7))
  clear hS1 hS2 hS3 hS4 hS5 hT1 hT2 hT3 hT4 hT5 hv hB h hS f7 z1 z2 z3 z4 z5 y1 y2 y3 y4
  go_enter Try.func16, Try.ntmps16
  go_wp2_with fail
  with_reducible refine HR.out.mono ?_
  rintro e w1 ⟨rfl, g1⟩
  have HG1 := Lib.hid (HG.out.next0 g1)
  have HI1 := Lib.hid (HI.out.gr0 g1)
  have HV1 := Lib.hid (HV.out.1.gr0 g1)
  clear g1 HG HI HR
  obtain ⟨bx, hb⟩ : ∃ b, w.heap.size = b := ⟨_, rfl⟩
  rw [hb] at HI1 ⊢
  clear hb
  have i0 := kp_cell (HI1.out.cell 0)
  have i1 := kp_cell (HI1.out.cell 1)
  have i2 := kp_cell (HI1.out.cell 2)
  have hne := kp_ne w1
  have P1 := Lib.hid (fun x : Cls (Kp w1) => put_is n0 2 2 S1 x.w (by omega) rfl HS.out.1)
  have P2 := Lib.hid (fun x : Cls (Kp w1) => put_is k 1 1 S2 x.w (by omega) rfl HS.out.2.1)
  have P3 := Lib.hid (fun x : Cls (Kp w1) => put_is l0 2 2 S3 x.w (by omega) rfl HS.out.2.2.1)
  have P4 := Lib.hid (fun x : Cls (Kp w1) => put_is s0 4 4 S4 x.w (by omega) rfl HS.out.2.2.2.1)
  go_wp2_with fail
  refine wp_region_kp (by kernel_rfl) (by kernel_rfl) ?_
  repeat (go_big_quiet_step ((rename_i x; first
    | with_reducible exact kp_call x (P1.out x)
    | with_reducible exact kp_call x (P2.out x)
    | with_reducible exact kp_call x (P3.out x)
    | with_reducible exact kp_call x (P4.out x))))
  with_reducible refine wpQuiet_nil ?_
  rintro _ ⟨y, rfl⟩
  have HG2 := Lib.hid (HG1.out.nextB y.h)
  have HI2 := Lib.hid (HI1.out.gr0 (.ofBelow y.h))
  have HV2 := Lib.hid (HV1.out.below y.h)
  clear i0 i1 i2 hne u1 u2 u3 u4 P1 P2 P3 P4 HG1 HI1 HV1
  generalize y.w = w2 at *
  clear y
  have i3 := kp_cell (HI2.out.cell 3)
  have i4 := kp_cell (HI2.out.cell 4)
  have hne := kp_ne w2
  have P5 := Lib.hid (fun x : Cls (Kp w2) => calls_below (etext_yes b B S5 ao cap x.w (HV2.out.below x.h) HV.out.2.1 HV.out.2.2 HS.out.2.2.2.2))
  go_wp2_with fail
  refine wp_region_kp (by kernel_rfl) (by kernel_rfl) ?_
  repeat (go_big_quiet_step ((rename_i x; with_reducible exact kp_call x (P5.out x))))
  with_reducible refine wpQuiet_nil ?_
  rintro _ ⟨y, rfl⟩
  have HG3 := Lib.hid (HG2.out.nextB y.h)
  go_wp2_with fail
  go_ret
  exact ⟨rfl, HG3.out⟩
theorem itext_no (k : Nat) (l s : Int) (b : List (Int × Int)) (t : ByteArray) (n : Int) (B : Nat) (ao : Option Addr) (cap : Nat) (w : World) (hv : Rd2 w ao b) (hB : B = b.length) (h : ¬ (Right16 k l s b t ∧ 0 ≤ n ∧ n ≤ 65535)) :
    Calls Try.prog 16 #[.agg #[.int .u8 k, .int .i64 l, .int .i64 s, .slice ao B cap, .string t], .int .i64 n] w fun e w' => e = .returned (.string ⟨#[]⟩) ∧ Gr [] w w' := by
  have HG := Lib.hid ((Gr.refl [] w).alloc (Obj.cells #[.int .u8 k, .int .i64 l, .int .i64 s, .slice ao B cap, .string t] 31))
  by_cases h1 : n < 0
  · clear hB
    go_enter Try.func16, Try.ntmps16
    go_wp2_with fail
    go_ret
    exact ⟨rfl, HG.out⟩
  by_cases h2 : 65535 < n
  · clear hB
    go_enter Try.func16, Try.ntmps16
    go_wp2_with fail
    go_ret
    exact ⟨rfl, HG.out⟩
  have HR := Lib.hid (iright_no k l s b t B ao cap _ (hv.gr0 HG.out) hB (fun q => h ⟨q, by omega, by omega⟩))
  clear hB h hv
  go_enter Try.func16, Try.ntmps16
  go_wp2_with fail
  with_reducible refine HR.out.mono ?_
  rintro e w1 ⟨rfl, g1⟩
  have HG1 := Lib.hid (HG.out.next0 g1)
  clear g1 HG HR
  go_wp2_with fail
  go_ret
  exact ⟨rfl, HG1.out⟩

end Go.Proofs.Ytpkhfdcokcchdab
