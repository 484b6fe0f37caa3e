/-
  SkAx: FlH, FeiP, Fei.
-/
import Derived.Test.YtifekejcbhllpaaGreatSkAw
import Derived.Test.YtifekejcbhllpaaGreatSkAh
import Derived.Test.YtifekejcbhllpaaGreatSkAk
import Derived.Test.YtifekejcbhllpaaGreatSkAa

set_option linter.unusedVariables false

/-
  Layer 9: a config's head, and what a head says.
-/
namespace Go.Proofs.YtifekejcbhllpaaGreat
open Go.RowKit
set_option linter.unusedVariables false

def magL : List UInt8 := [103, 97, 98, 105, 111, 110, 48, 49]
def preL (C : CfgZ) : List UInt8 := magL ++ (putL C.r.toNat 2 ++ (putL C.l.toNat 2 ++ (putL C.s.toNat 2 ++ (putL C.psi.toNat 2 ++ (putL C.key 8 ++ List.replicate 36 0)))))
def headL (C : CfgZ) : List UInt8 := preL C ++ putL (n32 (sum32 (preL C))) 4
def headS (C : CfgZ) : ByteArray := ⟨(headL C).toArray⟩
theorem preL_len (C : CfgZ) : (preL C).length = 60 := by unfold preL magL; simp [putL_length]
theorem headL_len (C : CfgZ) : (headL C).length = 64 := by unfold headL; rw [List.length_append, preL_len, putL_length]
theorem headS_size (C : CfgZ) : (headS C).size = 64 := by show (headL C).toArray.size = 64; rw [List.size_toArray, headL_len]
structure Wf16 (C : CfgZ) : Prop where
  r : 0 ≤ C.r ∧ C.r ≤ 65535
  l : 0 ≤ C.l ∧ C.l ≤ 65535
  s : 0 ≤ C.s ∧ C.s ≤ 65535
  psi : 0 ≤ C.psi ∧ C.psi ≤ 65535
  key : C.key < 18446744073709551616
theorem seq9 {a b : ByteArray} (h : a.data.toList = b.data.toList) : a = b := ByteArray.ext (Array.ext' h)
theorem sapp9 (a b : ByteArray) : (a ++ b).data.toList = a.data.toList ++ b.data.toList := by rw [ByteArray.data_append, Array.toList_append]
theorem mk9 (l : List UInt8) : ∃ S : ByteArray, S.data.toList = l := ⟨⟨l.toArray⟩, rfl⟩
theorem put9 (n : Nat) (k : Int) (j : Nat) (L : ByteArray) (w : World) (hn : n < 18446744073709551616) (hj : clamp8 k = j) (hL : L.data.toList = putL n j) :
    Calls Tryz.prog 15 #[.int .u64 n, .int .i64 k] w fun e w' => e = .returned (.string L) ∧ Below w.heap.size w w' := by
  refine (put_any n k w hn).mono ?_
  rintro e w' ⟨rfl, hb⟩
  refine ⟨?_, hb⟩
  rw [hj]
  congr 2
  exact seq9 hL.symm
set_option maxRecDepth 20000 in
theorem repeat36 (w : World) : Calls Tryz.prog 9 #[.string ⟨#[0]⟩, .int .i64 36] w fun e w' => e = .returned (.string ⟨(List.replicate 36 (0 : UInt8)).toArray⟩) ∧ Gr [] w w' := by
  have h := Any.strings_Repeat LnR.lays LnR.extra ⟨#[0]⟩ 36 w (by omega) (by decide)
  rw [LnR.fRepeat] at h
  refine h.mono ?_
  rintro e w' ⟨rfl, hb⟩
  exact ⟨rfl, .ofBelow hb⟩
set_option maxHeartbeats 8000000 in
set_option maxRecDepth 100000 in
theorem head_any (C : CfgZ) (hC : Wf16 C) (w : World) : Calls Tryz.prog 86 #[cfgV C] w fun e w' => e = .returned (.string (headS C)) ∧ Gr [] w w' := by
  have HG := Lib.hid ((Gr.refl [] w).alloc (Obj.cells (cfgRow C) 64))
  have HI := Lib.hid (Holds.new w (cfgRow C) 64)
  obtain ⟨hr, hl, hs, hp, hk⟩ := hC
  obtain ⟨S, hS⟩ : ∃ S, S = headS C := ⟨_, rfl⟩
  have hSL : S.data.toList = headL C := by rw [hS]; rfl
  rw [← hS]
  obtain ⟨r, l, s, p, key⟩ := C
  simp only at hr hl hs hp hk
  obtain ⟨r0, rfl⟩ : ∃ n : Nat, r = (n : Int) := ⟨r.toNat, by omega⟩
  obtain ⟨l0, rfl⟩ : ∃ n : Nat, l = (n : Int) := ⟨l.toNat, by omega⟩
  obtain ⟨s0, rfl⟩ : ∃ n : Nat, s = (n : Int) := ⟨s.toNat, by omega⟩
  obtain ⟨p0, rfl⟩ : ∃ n : Nat, p = (n : Int) := ⟨p.toNat, by omega⟩
  have u1 : IntKind.u64.wrap (r0 : Int) = r0 := IntWalk.u64_in _ (by omega)
  have u2 : IntKind.u64.wrap (l0 : Int) = l0 := IntWalk.u64_in _ (by omega)
  have u3 : IntKind.u64.wrap (s0 : Int) = s0 := IntWalk.u64_in _ (by omega)
  have u4 : IntKind.u64.wrap (p0 : Int) = p0 := IntWalk.u64_in _ (by omega)
  obtain ⟨M, hM⟩ : ∃ M : ByteArray, M = ⟨#[103, 97, 98, 105, 111, 110, 48, 49]⟩ := ⟨_, rfl⟩
  obtain ⟨Z, hZ⟩ : ∃ Z : ByteArray, Z = ⟨(List.replicate 36 (0 : UInt8)).toArray⟩ := ⟨_, rfl⟩
  have hML : M.data.toList = magL := by rw [hM]; rfl
  have hZL : Z.data.toList = List.replicate 36 0 := by rw [hZ]
  obtain ⟨S1, hS1⟩ := mk9 (putL r0 2)
  obtain ⟨S2, hS2⟩ := mk9 (putL l0 2)
  obtain ⟨S3, hS3⟩ := mk9 (putL s0 2)
  obtain ⟨S4, hS4⟩ := mk9 (putL p0 2)
  obtain ⟨S5, hS5⟩ := mk9 (putL key 8)
  obtain ⟨T1, hT1⟩ : ∃ T, T = M ++ S1 := ⟨_, rfl⟩
  obtain ⟨T2, hT2⟩ : ∃ T, T = T1 ++ S2 := ⟨_, rfl⟩
  obtain ⟨T3, hT3⟩ : ∃ T, T = T2 ++ S3 := ⟨_, rfl⟩
  obtain ⟨T4, hT4⟩ : ∃ T, T = T3 ++ S4 := ⟨_, rfl⟩
  obtain ⟨T5, hT5⟩ : ∃ T, T = T4 ++ S5 := ⟨_, rfl⟩
  obtain ⟨T6, hT6⟩ : ∃ T, T = T5 ++ Z := ⟨_, rfl⟩
  have hT6L : T6.data.toList = preL ⟨r0, l0, s0, p0, key⟩ := by
    rw [hT6, hT5, hT4, hT3, hT2, hT1, sapp9, sapp9, sapp9, sapp9, sapp9, sapp9, hML, hS1, hS2, hS3, hS4, hS5, hZL]
    unfold preL
    simp [List.append_assoc]
  obtain ⟨c, hc⟩ : ∃ c, c = n32 (sum32 (preL ⟨r0, l0, s0, p0, key⟩)) := ⟨_, rfl⟩
  have hcl : c < 4294967296 := by rw [hc]; exact n32_lt _
  have u5 : IntKind.u64.wrap (c : Int) = c := IntWalk.u64_in _ (by omega)
  obtain ⟨S6, hS6⟩ := mk9 (putL c 4)
  have hTS : T6 ++ S6 = S := seq9 (by rw [sapp9, hT6L, hS6, hSL, hc]; rfl)
  have z0 : M.size = 8 := by rw [Lib.size_eq, hML]; rfl
  have z1 : S1.size = 2 := by rw [Lib.size_eq, hS1, putL_length]
  have z2 : S2.size = 2 := by rw [Lib.size_eq, hS2, putL_length]
  have z3 : S3.size = 2 := by rw [Lib.size_eq, hS3, putL_length]
  have z4 : S4.size = 2 := by rw [Lib.size_eq, hS4, putL_length]
  have z5 : S5.size = 8 := by rw [Lib.size_eq, hS5, putL_length]
  have z6 : S6.size = 4 := by rw [Lib.size_eq, hS6, putL_length]
  have zz : Z.size = 36 := by rw [Lib.size_eq, hZL]; rfl
  have y1 : T1.size = 10 := by rw [hT1, ByteArray.size_append]; omega
  have y2 : T2.size = 12 := by rw [hT2, ByteArray.size_append]; omega
  have y3 : T3.size = 14 := by rw [hT3, ByteArray.size_append]; omega
  have y4 : T4.size = 16 := by rw [hT4, ByteArray.size_append]; omega
  have y5 : T5.size = 24 := by rw [hT5, ByteArray.size_append]; omega
  have y6 : T6.size = 60 := by rw [hT6, ByteArray.size_append]; omega
  have a0 := fun (W : World) => (run_string_add_sum (P := Tryz.prog) (w := W) M S1 (by omega)).trans (by rw [← hT1])
  have a1 := fun (W : World) => (run_string_add_sum (P := Tryz.prog) (w := W) T1 S2 (by omega)).trans (by rw [← hT2])
  have a2 := fun (W : World) => (run_string_add_sum (P := Tryz.prog) (w := W) T2 S3 (by omega)).trans (by rw [← hT3])
  have a3 := fun (W : World) => (run_string_add_sum (P := Tryz.prog) (w := W) T3 S4 (by omega)).trans (by rw [← hT4])
  have a4 := fun (W : World) => (run_string_add_sum (P := Tryz.prog) (w := W) T4 S5 (by omega)).trans (by rw [← hT5])
  have a5 := fun (W : World) => (run_string_add_sum (P := Tryz.prog) (w := W) T5 Z (by omega)).trans (by rw [← hT6])
  have a6 := fun (W : World) => (run_string_add_sum (P := Tryz.prog) (w := W) T6 S6 (by omega)).trans (by rw [hTS])
  rw [hM] at a0
  have HRp := Lib.hid (fun W => show Calls Tryz.prog 9 #[.string ⟨#[0]⟩, .int .i64 36] W (fun e w' => e = .returned (.string Z) ∧ Gr [] W w') from by rw [hZ]; exact repeat36 W)
  have HSum := Lib.hid (fun W => show Calls Tryz.prog 119 #[.string T6] W (fun e w' => e = .returned (.int .u32 (c : Int)) ∧ W = w') from by
    have := sum32_any T6 W (by unfold maxLen; omega)
    rw [hT6L, ← hc] at this
    exact this)
  have HP1 := Lib.hid (fun W => put9 r0 2 2 S1 W (by omega) rfl hS1)
  have HP2 := Lib.hid (fun W => put9 l0 2 2 S2 W (by omega) rfl hS2)
  have HP3 := Lib.hid (fun W => put9 s0 2 2 S3 W (by omega) rfl hS3)
  have HP4 := Lib.hid (fun W => put9 p0 2 2 S4 W (by omega) rfl hS4)
  have HP5 := Lib.hid (fun W => put9 key 8 8 S5 W hk rfl hS5)
  have HP6 := Lib.hid (fun W => put9 c 4 4 S6 W (by omega) rfl hS6)
  have HY := Lib.hid y5
  unfold cfgV
  unfold cfgRow at HG HI
  clear hS1 hS2 hS3 hS4 hS5 hS6 hT1 hT2 hT3 hT4 hT5 hT6 hT6L hTS hM hZ hML hZL hS hSL z0 z1 z2 z3 z4 z5 z6 zz y1 y2 y3 y4 y5 y6 hc hcl hr hl hs hp hk
  go_enter Tryz.func86, Tryz.ntmps86
  go_upto_region 1 with fail
  generalize w.alloc (Obj.cells #[.int .i64 (r0 : Int), .int .i64 (l0 : Int), .int .i64 (s0 : Int), .int .i64 (p0 : Int), .int .u64 (key : Int)] 64) = w1 at *
  have k0 := kp_cell (HI.out.cell 0)
  have k1 := kp_cell (HI.out.cell 1)
  have k2 := kp_cell (HI.out.cell 2)
  have k3 := kp_cell (HI.out.cell 3)
  have k4 := kp_cell (HI.out.cell 4)
  have hne := kp_ne w1
  refine wp_region_kp (by kernel_rfl) (by kernel_rfl) ?_
  repeat (go_big_quiet_step ((rename_i x; first
    | with_reducible exact kp_call x (HP1.out _)
    | with_reducible exact kp_call x (HP2.out _)
    | with_reducible exact kp_call x (HP3.out _)
    | with_reducible exact kp_call x (HP4.out _)
    | with_reducible exact kp_call x (HP5.out _))))
  with_reducible refine wpQuiet_nil ?_
  rintro _ ⟨y, rfl⟩
  have HG2 := Lib.hid (HG.out.nextB y.h)
  clear k0 k1 k2 k3 k4 hne HG HI HP1 HP2 HP3 HP4 HP5 u1 u2 u3 u4 a0 a1 a2 a3 a4
  generalize y.w = w2 at *
  clear y
  have y5 := HY.out
  go_wp2_with fail
  with_reducible refine (HRp.out _).mono ?_
  rintro e w3 ⟨rfl, g3⟩
  have HG3 := Lib.hid (HG2.out.trans g3)
  clear g3 y5 HG2
  go_wp2_with fail
  with_reducible refine (HSum.out _).mono ?_
  rintro e w4 ⟨rfl, rfl⟩
  go_wp2_with fail
  with_reducible refine (HP6.out _).mono ?_
  rintro e w5 ⟨rfl, b5⟩
  have HG5 := Lib.hid (HG3.out.nextB b5)
  clear b5
  go_wp2_with fail
  go_ret
  exact ⟨rfl, HG5.out⟩
/-- What a head says. -/
def parZ (l : List UInt8) : CfgZ := ⟨(getL ((l.drop 8).take 2) : Nat), (getL ((l.drop 10).take 2) : Nat), (getL ((l.drop 12).take 2) : Nat), (getL ((l.drop 14).take 2) : Nat), getL ((l.drop 16).take 8)⟩
theorem get2_lt (l : List UInt8) (k : Nat) : getL ((l.drop k).take 2) < 65536 := by
  have h := getL_lt ((l.drop k).take 2)
  have h2 : ((l.drop k).take 2).length ≤ 2 := by simp; omega
  exact Nat.lt_of_lt_of_le h (Nat.le_trans (Nat.pow_le_pow_right (by omega) h2) (by omega))
theorem ext_list (s : ByteArray) (a b : Nat) : (s.extract a b).data.toList = (s.data.toList.drop a).take (b - a) := by
  rw [ByteArray.data_extract, Array.toList_extract, List.extract_eq_take_drop]
set_option maxHeartbeats 8000000 in
set_option maxRecDepth 100000 in
theorem parse_any (s : ByteArray) (hs : s.size = 64) (w : World) : Calls Tryz.prog 89 #[.string s] w fun e w' => e = .returned (cfgV (parZ s.data.toList)) ∧ Gr [] w w' := by
  have hg : ∀ (a b n : Nat) (W : World), a < b → b ≤ a + 8 → n = getL ((s.data.toList.drop a).take (b - a)) → Calls Tryz.prog 16 #[.string (s.extract a b)] W fun e w' => e = .returned (.int .u64 (n : Int)) ∧ W = w' := fun a b n W h1 h2 hn => by
    refine (get_any _ W (by rw [ByteArray.size_extract]; unfold maxLen; omega)).mono ?_
    rintro e w' ⟨rfl, rfl⟩
    refine ⟨?_, rfl⟩
    rw [ext_list, List.take_take, show min 8 (b - a) = b - a by omega, hn]
  obtain ⟨n1, e1⟩ : ∃ n, n = getL ((s.data.toList.drop 8).take 2) := ⟨_, rfl⟩
  obtain ⟨n2, e2⟩ : ∃ n, n = getL ((s.data.toList.drop 10).take 2) := ⟨_, rfl⟩
  obtain ⟨n3, e3⟩ : ∃ n, n = getL ((s.data.toList.drop 12).take 2) := ⟨_, rfl⟩
  obtain ⟨n4, e4⟩ : ∃ n, n = getL ((s.data.toList.drop 14).take 2) := ⟨_, rfl⟩
  obtain ⟨n5, e5⟩ : ∃ n, n = getL ((s.data.toList.drop 16).take 8) := ⟨_, rfl⟩
  have H1 := Lib.hid (fun W => hg 8 10 n1 W (by omega) (by omega) e1)
  have H2 := Lib.hid (fun W => hg 10 12 n2 W (by omega) (by omega) e2)
  have H3 := Lib.hid (fun W => hg 12 14 n3 W (by omega) (by omega) e3)
  have H4 := Lib.hid (fun W => hg 14 16 n4 W (by omega) (by omega) e4)
  have H5 := Lib.hid (fun W => hg 16 24 n5 W (by omega) (by omega) e5)
  have hv : cfgV (parZ s.data.toList) = .agg #[.int .i64 (n1 : Int), .int .i64 (n2 : Int), .int .i64 (n3 : Int), .int .i64 (n4 : Int), .int .u64 (n5 : Int)] := by rw [e1, e2, e3, e4, e5]; rfl
  have b1 := get2_lt s.data.toList 8
  have b2 := get2_lt s.data.toList 10
  have b3 := get2_lt s.data.toList 12
  have b4 := get2_lt s.data.toList 14
  rw [← e1] at b1
  rw [← e2] at b2
  rw [← e3] at b3
  rw [← e4] at b4
  have i1 : IntKind.i64.wrap (n1 : Int) = n1 := IntWalk.i64_in _ (by omega)
  have i2 : IntKind.i64.wrap (n2 : Int) = n2 := IntWalk.i64_in _ (by omega)
  have i3 : IntKind.i64.wrap (n3 : Int) = n3 := IntWalk.i64_in _ (by omega)
  have i4 : IntKind.i64.wrap (n4 : Int) = n4 := IntWalk.i64_in _ (by omega)
  rw [hv]
  have HN := Lib.hid (Holds.new w #[.int .i64 0, .int .i64 0, .int .i64 0, .int .i64 0, .int .u64 0] 64)
  have HG := Lib.hid ((Gr.refl [] w).alloc (Obj.cells #[.int .i64 0, .int .i64 0, .int .i64 0, .int .i64 0, .int .u64 0] 64))
  have HZ := Lib.hid hs
  clear hg e1 e2 e3 e4 e5 hv b1 b2 b3 b4 hs
  go_enter Tryz.func89, Tryz.ntmps89
  go_upto_region 1 with fail
  generalize w.alloc (Obj.cells #[.int .i64 0, .int .i64 0, .int .i64 0, .int .i64 0, .int .u64 0] 64) = w1 at *
  obtain ⟨rb, hrb⟩ : ∃ rb, w.heap.size = rb := ⟨_, rfl⟩
  have HW := Lib.hid (show w.heap.size ≤ rb by omega)
  rw [hrb] at HN ⊢
  clear hrb
  have K1 := Lib.hid (fun x : Cls (Kp w1) => (H1.out x.w).mono fun _ w' q => show _ ∧ Below x.w.heap.size x.w w' from ⟨q.1, q.2 ▸ Below.refl _ _⟩)
  have K2 := Lib.hid (fun x : Cls (Kp w1) => (H2.out x.w).mono fun _ w' q => show _ ∧ Below x.w.heap.size x.w w' from ⟨q.1, q.2 ▸ Below.refl _ _⟩)
  have K3 := Lib.hid (fun x : Cls (Kp w1) => (H3.out x.w).mono fun _ w' q => show _ ∧ Below x.w.heap.size x.w w' from ⟨q.1, q.2 ▸ Below.refl _ _⟩)
  have K4 := Lib.hid (fun x : Cls (Kp w1) => (H4.out x.w).mono fun _ w' q => show _ ∧ Below x.w.heap.size x.w w' from ⟨q.1, q.2 ▸ Below.refl _ _⟩)
  have K5 := Lib.hid (fun x : Cls (Kp w1) => (H5.out x.w).mono fun _ w' q => show _ ∧ Below x.w.heap.size x.w w' from ⟨q.1, q.2 ▸ Below.refl _ _⟩)
  have hsl : ∀ (a b : Nat) (W : World), a ≤ b → b ≤ 24 → (Instr.slice 9 (.string s) (some (.int .i64 (a : Int))) (some (.int .i64 (b : Int))) none).run Tryz.prog W = .ok (.string (s.extract a b)) W := fun a b W h1 h2 => by
    have := run_slice_string (P := Tryz.prog) W 9 s .i64 .i64 (a : Int) (b : Int) Tryz.underlying9 (by omega) (by omega) (by have := HZ.out; omega)
    simpa using this
  have q1 : ∀ W : World, (Instr.slice 9 (.string s) (some (.int .i64 8)) (some (.int .i64 10)) none).run Tryz.prog W = .ok (.string (s.extract 8 10)) W := fun W => hsl 8 10 W (by omega) (by omega)
  have q2 : ∀ W : World, (Instr.slice 9 (.string s) (some (.int .i64 10)) (some (.int .i64 12)) none).run Tryz.prog W = .ok (.string (s.extract 10 12)) W := fun W => hsl 10 12 W (by omega) (by omega)
  have q3 : ∀ W : World, (Instr.slice 9 (.string s) (some (.int .i64 12)) (some (.int .i64 14)) none).run Tryz.prog W = .ok (.string (s.extract 12 14)) W := fun W => hsl 12 14 W (by omega) (by omega)
  have q4 : ∀ W : World, (Instr.slice 9 (.string s) (some (.int .i64 14)) (some (.int .i64 16)) none).run Tryz.prog W = .ok (.string (s.extract 14 16)) W := fun W => hsl 14 16 W (by omega) (by omega)
  have q5 : ∀ W : World, (Instr.slice 9 (.string s) (some (.int .i64 16)) (some (.int .i64 24)) none).run Tryz.prog W = .ok (.string (s.extract 16 24)) W := fun W => hsl 16 24 W (by omega) (by omega)
  clear hsl
  have hne := kp_ne w1
  refine wp_region_kp_tail 20 (by kernel_rfl) (by kernel_rfl) ?_
  simp only [List.take_succ_cons, List.take_zero, List.drop_succ_cons, List.drop_zero]
  repeat (go_big_quiet_step ((rename_i x; first
    | with_reducible exact kp_call x (K1.out x)
    | with_reducible exact kp_call x (K2.out x)
    | with_reducible exact kp_call x (K3.out x)
    | with_reducible exact kp_call x (K4.out x)
    | with_reducible exact kp_call x (K5.out x))))
  with_reducible refine wpQuiet_nil ?_
  rintro _ ⟨y, rfl⟩
  have gy : Gr [] w1 y.w := Gr.ofBelow (cs := []) y.h
  have HN2 := Lib.hid (And.intro (HN.out.gr0 gy) (HG.out.trans gy))
  clear q1 q2 q3 q4 q5 K1 K2 K3 K4 K5 hne gy HN HG H1 H2 H3 H4 H5 i1 i2 i3 i4
  generalize y.w = w2 at *
  clear y
  have r0 : w2.cell? ⟨rb, 0, none⟩ = some (.int .i64 0) := HN2.out.1.cell 0
  have r1 : w2.cell? ⟨rb, 1, none⟩ = some (.int .i64 0) := HN2.out.1.cell 1
  have r2 : w2.cell? ⟨rb, 2, none⟩ = some (.int .i64 0) := HN2.out.1.cell 2
  have r3 : w2.cell? ⟨rb, 3, none⟩ = some (.int .i64 0) := HN2.out.1.cell 3
  have r4 : w2.cell? ⟨rb, 4, none⟩ = some (.int .u64 0) := HN2.out.1.cell 4
  have f0 := HN2.out.1.frozen 0
  have f1 := HN2.out.1.frozen 1
  have f2 := HN2.out.1.frozen 2
  have f3 := HN2.out.1.frozen 3
  have f4 := HN2.out.1.frozen 4
  have HF := Lib.hid (((((HN2.out.2.setCell (p := ⟨rb, 0, none⟩) (.inr HW.out) (.int .i64 (n1 : Int))).setCell (p := ⟨rb, 1, none⟩) (.inr HW.out) (.int .i64 (n2 : Int))).setCell (p := ⟨rb, 2, none⟩) (.inr HW.out) (.int .i64 (n3 : Int))).setCell (p := ⟨rb, 3, none⟩) (.inr HW.out) (.int .i64 (n4 : Int))).setCell (p := ⟨rb, 4, none⟩) (.inr HW.out) (.int .u64 (n5 : Int)))
  go_wp2_with fail
  exact bodyPost_ret (v := .agg #[.int .i64 (n1 : Int), .int .i64 (n2 : Int), .int .i64 (n3 : Int), .int .i64 (n4 : Int), .int .u64 (n5 : Int)]) (by simp [results, Tryz.results89, go_sem, *]) rfl ⟨rfl, HF.out⟩
end Go.Proofs.YtifekejcbhllpaaGreat

/-
  Cycle walking: an injective map of [0, M) into itself comes back below m from every place below m; and its inverse walks back.
-/
namespace Go.Proofs.YtifekejcbhllpaaGreat

theorem pigeon : ∀ (M : Nat) (h : Nat → Nat), (∀ i, i ≤ M → h i < M) → ∃ i j, i < j ∧ j ≤ M ∧ h i = h j := by
  intro M
  induction M with
  | zero => intro h hh; exact absurd (hh 0 (Nat.le_refl _)) (by omega)
  | succ M ih =>
    intro h hh
    by_cases c : ∃ i, i ≤ M ∧ h i = h (M + 1)
    · obtain ⟨i, hi, he⟩ := c
      exact ⟨i, M + 1, by omega, by omega, he⟩
    · have hne : ∀ i, i ≤ M → h i ≠ h (M + 1) := fun i hi he => c ⟨i, hi, he⟩
      obtain ⟨i, j, hij, hj, he⟩ := ih (fun i => if h i = M then h (M + 1) else h i) (by
        intro i hi
        have h1 := hh i (by omega)
        have h2 := hh (M + 1) (by omega)
        have h3 := hne i hi
        show (if h i = M then h (M + 1) else h i) < M
        by_cases e : h i = M
        · rw [if_pos e]; omega
        · rw [if_neg e]; omega)
      refine ⟨i, j, hij, by omega, ?_⟩
      have e1 := hne i (by omega)
      have e2 := hne j hj
      have he' : (if h i = M then h (M + 1) else h i) = (if h j = M then h (M + 1) else h j) := he
      by_cases a : h i = M
      · by_cases b : h j = M
        · omega
        · rw [if_pos a, if_neg b] at he'; exact absurd he'.symm e2
      · by_cases b : h j = M
        · rw [if_neg a, if_pos b] at he'; exact absurd he' e1
        · rwa [if_neg a, if_neg b] at he'

def iter (f : Nat → Nat) : Nat → Nat → Nat
  | 0, x => x
  | t + 1, x => f (iter f t x)
theorem iter_lt {f : Nat → Nat} {M : Nat} (hf : ∀ x, x < M → f x < M) (t x : Nat) (hx : x < M) : iter f t x < M := by
  induction t with
  | zero => exact hx
  | succ t ih => exact hf _ ih
theorem iter_add (f : Nat → Nat) (s t x : Nat) : iter f (s + t) x = iter f s (iter f t x) := by
  induction s with
  | zero => simp [iter]
  | succ s ih => rw [Nat.succ_add]; simp only [iter]; rw [ih]
theorem iter_inj {f : Nat → Nat} {M : Nat} (hf : ∀ x, x < M → f x < M) (hi : ∀ x y, x < M → y < M → f x = f y → x = y) (t x y : Nat) (hx : x < M) (hy : y < M) (h : iter f t x = iter f t y) : x = y := by
  induction t with
  | zero => exact h
  | succ t ih => exact ih (hi _ _ (iter_lt hf t x hx) (iter_lt hf t y hy) h)
theorem comes_back {f : Nat → Nat} {M : Nat} (hf : ∀ x, x < M → f x < M) (hi : ∀ x y, x < M → y < M → f x = f y → x = y) (x : Nat) (hx : x < M) : ∃ d, 1 ≤ d ∧ d ≤ M ∧ iter f d x = x := by
  obtain ⟨i, j, hij, hj, he⟩ := pigeon M (fun t => iter f t x) (fun t _ => iter_lt hf t x hx)
  refine ⟨j - i, by omega, by omega, ?_⟩
  have e : iter f i x = iter f i (iter f (j - i) x) := by
    rw [← iter_add, show i + (j - i) = j by omega]; exact he
  exact (iter_inj hf hi i _ _ hx (iter_lt hf _ x hx) e).symm
/-- The first return below m: its number of turns. -/
theorem first_back {f : Nat → Nat} {M m : Nat} (hf : ∀ x, x < M → f x < M) (hi : ∀ x y, x < M → y < M → f x = f y → x = y) (x : Nat) (hx : x < m) (hm : m ≤ M) :
    ∃ d, 1 ≤ d ∧ d ≤ M ∧ iter f d x < m ∧ ∀ s, 1 ≤ s → s < d → m ≤ iter f s x := by
  obtain ⟨d, h1, h2, h3⟩ := comes_back hf hi x (by omega)
  have key : ∀ n, n ≤ M → (∃ d, 1 ≤ d ∧ d ≤ n ∧ iter f d x < m) → ∃ d, 1 ≤ d ∧ d ≤ M ∧ iter f d x < m ∧ ∀ s, 1 ≤ s → s < d → m ≤ iter f s x := by
    intro n
    induction n with
    | zero => intro _ ⟨d, a, b, _⟩; omega
    | succ n ih =>
      intro hn ⟨d, a, b, c⟩
      by_cases e : ∃ d, 1 ≤ d ∧ d ≤ n ∧ iter f d x < m
      · exact ih (by omega) e
      · refine ⟨d, a, by omega, c, fun s hs1 hs2 => ?_⟩
        by_cases g : iter f s x < m
        · exact absurd ⟨s, hs1, by omega, g⟩ e
        · omega
  exact key M (Nat.le_refl _) ⟨d, h1, h2, by rw [h3]; exact hx⟩
/-- The inverse walks the same way back. -/
theorem back_iter {f g : Nat → Nat} {M : Nat} (hf : ∀ x, x < M → f x < M) (hg : ∀ x, x < M → g (f x) = x) (d s x : Nat) (hs : s ≤ d) (hx : x < M) : iter g s (iter f d x) = iter f (d - s) x := by
  induction s with
  | zero => rfl
  | succ s ih =>
    simp only [iter]
    rw [ih (by omega), show d - s = (d - (s + 1)) + 1 by omega]
    simp only [iter]
    exact hg _ (iter_lt hf _ x hx)

end Go.Proofs.YtifekejcbhllpaaGreat

/-
  Contracts of package feistel: mask, mix.
-/
namespace Go.Proofs.YtifekejcbhllpaaGreat
open Go.RowKit

def mixN (x k h : Nat) : Nat := (((x % 65536) * 40503 + k * 52711 + 12289) % 65536 ^^^ ((x % 65536) * 40503 + k * 52711 + 12289) % 65536 / 128) % 2 ^ h
theorem mixN_lt (x k h : Nat) : mixN x k h < 2 ^ h := Nat.mod_lt _ (Nat.pow_pos (by omega))

theorem i64_and_nat (a b : Nat) (ha : a < 2147483648) (hb : b < 2147483648) : bits .and .i64 (a : Int) (b : Int) = ((a &&& b : Nat) : Int) := by
  have e : (BitVec.ofInt 64 (a : Int) &&& BitVec.ofInt 64 (b : Int)).toNat = a &&& b := by
    rw [BitVec.toNat_and, BitVec.ofInt_natCast, BitVec.ofInt_natCast, BitVec.toNat_ofNat, BitVec.toNat_ofNat, Nat.mod_eq_of_lt (by omega), Nat.mod_eq_of_lt (by omega)]
  have l : a &&& b < 2 ^ 31 := Nat.lt_of_le_of_lt Nat.and_le_left ha
  show IntKind.i64.wrap ((BitVec.ofInt 64 (a : Int) &&& BitVec.ofInt 64 (b : Int)).toNat : Int) = _
  rw [e]
  exact IntWalk.i64_in _ (by omega)
theorem i64_xor_nat (a b : Nat) (ha : a < 2147483648) (hb : b < 2147483648) : bits .xor .i64 (a : Int) (b : Int) = ((a ^^^ b : Nat) : Int) := by
  have e : (BitVec.ofInt 64 (a : Int) ^^^ BitVec.ofInt 64 (b : Int)).toNat = a ^^^ b := by
    rw [BitVec.toNat_xor, BitVec.ofInt_natCast, BitVec.ofInt_natCast, BitVec.toNat_ofNat, BitVec.toNat_ofNat, Nat.mod_eq_of_lt (by omega), Nat.mod_eq_of_lt (by omega)]
  have l : a ^^^ b < 2 ^ 31 := Nat.xor_lt_two_pow ha hb
  show IntKind.i64.wrap ((BitVec.ofInt 64 (a : Int) ^^^ BitVec.ofInt 64 (b : Int)).toNat : Int) = _
  rw [e]
  exact IntWalk.i64_in _ (by omega)
theorem i64_or_nat (a b : Nat) (ha : a < 2147483648) (hb : b < 2147483648) : bits .or .i64 (a : Int) (b : Int) = ((a ||| b : Nat) : Int) := by
  have e : (BitVec.ofInt 64 (a : Int) ||| BitVec.ofInt 64 (b : Int)).toNat = a ||| b := by
    rw [BitVec.toNat_or, BitVec.ofInt_natCast, BitVec.ofInt_natCast, BitVec.toNat_ofNat, BitVec.toNat_ofNat, Nat.mod_eq_of_lt (by omega), Nat.mod_eq_of_lt (by omega)]
  have l : a ||| b < 2 ^ 31 := Nat.or_lt_two_pow ha hb
  show IntKind.i64.wrap ((BitVec.ofInt 64 (a : Int) ||| BitVec.ofInt 64 (b : Int)).toNat : Int) = _
  rw [e]
  exact IntWalk.i64_in _ (by omega)
theorem mix_walk (x k h : Nat) (h2 : h ≤ 7) (hx : x < 65536) (_hk : k < 65536) :
    bits BinOp.and IntKind.i64 (wrap64 (bits BinOp.xor IntKind.u16 (IntKind.u16.wrap (IntKind.u16.wrap (IntKind.u16.wrap ((x : Int) * 40503) + IntKind.u16.wrap ((k : Int) * 52711)) + 12289))
      (IntKind.u16.wrap (IntKind.u16.wrap (IntKind.u16.wrap ((x : Int) * 40503) + IntKind.u16.wrap ((k : Int) * 52711)) + 12289) / 128))) ((2 ^ h - 1 : Nat) : Int) = ((mixN x k h : Nat) : Int) := by
  obtain ⟨S, hS⟩ : ∃ S : Nat, S = (x * 40503 + k * 52711 + 12289) % 65536 := ⟨_, rfl⟩
  have e1 : IntKind.u16.wrap (IntKind.u16.wrap (IntKind.u16.wrap ((x : Int) * 40503) + IntKind.u16.wrap ((k : Int) * 52711)) + 12289) = (S : Int) := by
    simp only [IntKind.wrap_u16]; omega
  have hl : S < 65536 := by omega
  have e2 : (S : Int) / 128 = ((S / 128 : Nat) : Int) := by omega
  rw [e1, e2, u16_xor_nat _ _ hl (by omega)]
  have hT : S ^^^ S / 128 < 2 ^ 16 := Nat.xor_lt_two_pow hl (by omega)
  have e3 : wrap64 ((S ^^^ S / 128 : Nat) : Int) = ((S ^^^ S / 128 : Nat) : Int) := by unfold wrap64; omega
  have hp : (2 : Nat) ^ h ≤ 2 ^ 7 := Nat.pow_le_pow_right (by omega) h2
  rw [e3, i64_and_nat _ _ (by omega) (by omega), Nat.and_two_pow_sub_one_eq_mod]
  unfold mixN
  rw [Nat.mod_eq_of_lt hx, ← hS]

set_option maxHeartbeats 800000 in
theorem mask_any (sz a b c d : Int) (h : Nat) (w : World) (h1 : 1 ≤ h) (h2 : h ≤ 7) :
    Calls Tryz.prog 136 #[.agg #[.int .i64 sz, .int .i64 h, .int .u16 a, .int .u16 b, .int .u16 c, .int .u16 d]] w fun e w' => e = .returned (.int .i64 ((2 ^ h - 1 : Nat) : Int)) ∧ Below w.heap.size w w' := by
  have hc : h = 1 ∨ h = 2 ∨ h = 3 ∨ h = 4 ∨ h = 5 ∨ h = 6 ∨ h = 7 := by omega
  rcases hc with rfl | rfl | rfl | rfl | rfl | rfl | rfl
  all_goals
    go_enter Tryz.func136, Tryz.ntmps136
    go_wp2
    go_ret
    exact ⟨rfl, by go_grown⟩

set_option maxHeartbeats 1000000 in
theorem mix_any (sz a b c d : Int) (h x k : Nat) (w : World) (h1 : 1 ≤ h) (h2 : h ≤ 7) (hx : x < 65536) (hk : k < 65536) :
    Calls Tryz.prog 137 #[.agg #[.int .i64 sz, .int .i64 h, .int .u16 a, .int .u16 b, .int .u16 c, .int .u16 d], .int .i64 x, .int .u16 k] w fun e w' => e = .returned (.int .i64 ((mixN x k h : Nat) : Int)) ∧ Below w.heap.size w w' := by
  go_enter Tryz.func137, Tryz.ntmps137
  go_wp2_with fail
  refine (mask_any sz a b c d h _ h1 h2).mono ?_
  rintro e w1 ⟨rfl, hb1⟩
  have B1 := below_new (Below.refl _ w) (Obj.cells #[Value.int IntKind.i64 sz, Value.int IntKind.i64 h, Value.int IntKind.u16 a, Value.int IntKind.u16 b, Value.int IntKind.u16 c, Value.int IntKind.u16 d] 139)
  have HB := Lib.hid (below_next B1 hb1)
  clear B1 hb1
  go_wp2_with fail
  rw [mix_walk x k h h2 hx hk]
  go_ret
  exact ⟨rfl, HB.out⟩

end Go.Proofs.YtifekejcbhllpaaGreat
