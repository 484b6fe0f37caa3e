/-
  Layer 12: what each law first looks at; RecFollows.
-/
import Derived.Test.YtpkhfdcokcchdabDoorRcD
import Derived.Test.YtpkhfdcokcchdabDoorRcE
import Derived.Laws.StructEq
namespace Go.Proofs.YtpkhfdcokcchdabDoor
open Go.RowKit

theorem req (x y : Int) (s t : ByteArray) (w : World) : (Op.equalIn 10000 25 (.agg #[.int .u8 x, .string s]) (.agg #[.int .u8 y, .string t])).run Tryd.prog w = .ok (x == y && s.toList == t.toList) w := by
  have u3 := Tryd.underlying5
  have a3 := Tryd.isAgg5
  have z3 := Tryd.sizeOf5
  have u9 := Tryd.underlying9
  have a9 := Tryd.isAgg9
  have z9 := Tryd.sizeOf9
  have hS : Tryd.prog.underlying 25 = some (.struct (Tryd.prog.fieldsOf 25)) := by kernel_rfl
  have hp : Tryd.prog.stoodInHeld 25 = false := by kernel_rfl
  rw [show (10000 : Nat) = 9999 + 1 from rfl, run_equalIn_agg w 9999 25 _ _ hS hp]
  simp only [Program.fieldsOf, Tryd.underlying25]
  go_simp
  by_cases h1 : x = y <;> by_cases h2 : s.toList = t.toList <;> simp [h1, h2]
theorem seq (x1 x2 x3 y1 y2 y3 : Int) (w : World) : (Op.equalIn 10000 30 (.agg #[.int .u32 x1, .int .u32 x2, .int .u32 x3]) (.agg #[.int .u32 y1, .int .u32 y2, .int .u32 y3])).run Tryd.prog w = .ok (x1 == y1 && (x2 == y2 && x3 == y3)) w := by
  have u3 := Tryd.underlying22
  have a3 := Tryd.isAgg22
  have z3 := Tryd.sizeOf22
  have hS : Tryd.prog.underlying 30 = some (.struct (Tryd.prog.fieldsOf 30)) := by kernel_rfl
  have hp : Tryd.prog.stoodInHeld 30 = false := by kernel_rfl
  rw [show (10000 : Nat) = 9999 + 1 from rfl, run_equalIn_agg w 9999 30 _ _ hS hp]
  simp only [Program.fieldsOf, Tryd.underlying30]
  go_simp
  by_cases h1 : x1 = y1 <;> by_cases h2 : x2 = y2 <;> by_cases h3 : x3 = y3 <;> simp [h1, h2, h3]
theorem rguardR : Tryd.prog.eqGuardType Tryd.prog.depth 25 = false := by kernel_rfl
theorem rguardS : Tryd.prog.eqGuardType Tryd.prog.depth 30 = false := by kernel_rfl
/-- An encoding, whatever stands behind it, is the record. -/
theorem decode_known (x Y : ByteArray) (e v q kind : Nat) (b rest : List UInt8) (w : World) (he : e < 4294967296) (hv : v < 4294967296) (hq : q < 4294967296) (hk : kind < 256) (h0 : kind ≠ 0) (hb : b.length ≤ 1024) (hs : x.size ≤ 100000) (hx : x.data.toList = encL e v q kind b ++ rest) (hY : Y.data.toList = b) :
    Calls Tryd.prog 13 #[.string x] w fun r w' => r = .returned (.tuple #[.agg #[.int .u32 e, .int .u32 v, .int .u32 q], .agg #[.int .u8 kind, .string Y], .int .i64 0]) ∧ Gr [] w w' := by
  have h := decode_any x w hs
  obtain ⟨f1, f2⟩ := dec_enc e v q kind b he hv hq hk h0 hb rest
  obtain ⟨g1, g2, g3, g4, g5, g6⟩ := dec_fields e v q kind b he hv hq hk hb rest
  have hYb : Y = ⟨b.toArray⟩ := by apply data_eq; rw [hY]
  rw [hx, decV_yes f1 f2, g1, g2, g3, g4, g5, g6, ← hYb] at h
  exact h
theorem encode_is (e v q kind : Nat) (s E : ByteArray) (w : World) (he : e < 4294967296) (hv : v < 4294967296) (hq : q < 4294967296) (hk : kind < 256) (h0 : kind ≠ 0) (hs : s.size ≤ 1024) (hE : E = ⟨(encL e v q kind s.data.toList).toArray⟩) :
    Calls Tryd.prog 7 #[.agg #[.int .u32 e, .int .u32 v, .int .u32 q], .agg #[.int .u8 kind, .string s]] w fun r w' => r = .returned (.tuple #[.string E, .int .i64 0]) ∧ Gr [] w w' := by
  subst hE
  exact encode_yes e v q kind s w he hv hq hk h0 hs

theorem wk_enc (E : ByteArray) (w : World) (hE : E = ⟨(encL 1 0 2 5 []).toArray⟩) :
    Calls Tryd.prog 7 #[.agg #[.int .u32 1, .int .u32 0, .int .u32 2], .agg #[.int .u8 5, .string ⟨#[]⟩]] w fun r w' => r = .returned (.tuple #[.string E, .int .i64 0]) ∧ Gr [] w w' :=
  encode_is 1 0 2 5 ⟨#[]⟩ E w (by omega) (by omega) (by omega) (by omega) (by omega) (by decide) hE
theorem wk_dec (M : ByteArray) (w : World) (hs : M.size ≤ 100000) (hM : M.data.toList = encL 1 0 2 5 [] ++ [109, 111, 114, 101]) :
    Calls Tryd.prog 13 #[.string M] w fun r w' => r = .returned (.tuple #[.agg #[.int .u32 1, .int .u32 0, .int .u32 2], .agg #[.int .u8 5, .string ⟨#[]⟩], .int .i64 0]) ∧ Gr [] w w' :=
  decode_known M ⟨#[]⟩ 1 0 2 5 [] [109, 111, 114, 101] w (by omega) (by omega) (by omega) (by omega) (by omega) (by decide) hs hM rfl
theorem wk_size (w : World) : Calls Tryd.prog 12 #[.agg #[.int .u8 5, .string ⟨#[]⟩]] w fun e w' => e = .returned (.int .i64 32) ∧ Gr [] w w' :=
  rsize_yes 5 ⟨#[]⟩ w (by omega) (by decide)
theorem wk_fol (w : World) : Calls Tryd.prog 15 #[.agg #[.int .u32 1, .int .u32 0, .int .u32 3], .agg #[.int .u32 1, .int .u32 0, .int .u32 2]] w fun e w' => e = .returned (.bool true) ∧ Gr [] w w' :=
  follows_any 1 0 3 1 0 2 w (by omega) (by omega)

set_option maxHeartbeats 4000000 in
set_option maxRecDepth 20000 in
theorem wakes12_any (w : World) : Calls Tryd.prog 10 #[] w fun e w' => e = .returned (.bool true) ∧ Gr [] w w' := by
  have hreq := req
  have hseq := seq
  have hgR := fun (W : World) (op : BinOp) (x y : Operand) (xs ys : Array Value) => run_eqGuard_agg (P := Tryd.prog) (w := W) op 25 x y xs ys rguardR
  have hgS := fun (W : World) (op : BinOp) (x y : Operand) (xs ys : Array Value) => run_eqGuard_agg (P := Tryd.prog) (w := W) op 30 x y xs ys rguardS
  obtain ⟨E, hE⟩ : ∃ E : ByteArray, E = ⟨(encL 1 0 2 5 []).toArray⟩ := ⟨_, rfl⟩
  have hEs : E.size = 32 := by rw [hE, size_list, mk_toList, encL_len]; rfl
  obtain ⟨M, hM⟩ : ∃ M : ByteArray, M = E ++ ⟨#[109, 111, 114, 101]⟩ := ⟨_, rfl⟩
  have hMs : M.size ≤ 100000 := by rw [hM, size_list, app_toList, List.length_append, ← size_list, hEs, mk_toList]; decide
  have hMl : M.data.toList = encL 1 0 2 5 [] ++ [109, 111, 114, 101] := by rw [hM, app_toList, hE]
  have HE := Lib.hid (fun W => wk_enc E W hE)
  have HD := Lib.hid (fun W => wk_dec M W hMs hMl)
  have HMM := Lib.hid hM
  have HG := Lib.hid ((Gr.refl [] w).alloc (Obj.cells #[.int .u8 5, .string ⟨#[]⟩] 25))
  have HR := Lib.hid (Holds.new w #[.int .u8 5, .string ⟨#[]⟩] 25)
  clear hE hM hMs hMl
  go_enter Tryd.func10, Tryd.ntmps10
  go_wp2_with fail
  with_reducible refine (HE.out _).mono ?_
  rintro e w1 ⟨rfl, g1⟩
  have HG1 := Lib.hid (HG.out.next0 g1)
  have HR1 := Lib.hid (HR.out.gr0 g1)
  clear g1 HG HR
  obtain ⟨br, hbr⟩ : ∃ b, w.heap.size = b := ⟨_, rfl⟩
  rw [hbr] at HR1 ⊢
  clear hbr
  go_wp2_with fail
  rw [← HMM.out]
  with_reducible refine (HD.out _).mono ?_
  rintro e w2 ⟨rfl, g2⟩
  have HG2 := Lib.hid (((HG1.out.next0 g2).alloc (Obj.cells #[.int .u32 1, .int .u32 0, .int .u32 2] 30)).alloc (Obj.cells #[.int .u8 5, .string ⟨#[]⟩] 25))
  have HR2 := Lib.hid (((HR1.out.gr0 g2).alloc (Obj.cells #[.int .u32 1, .int .u32 0, .int .u32 2] 30)).alloc (Obj.cells #[.int .u8 5, .string ⟨#[]⟩] 25))
  have HS2 := Lib.hid ((Holds.new w2 #[.int .u32 1, .int .u32 0, .int .u32 2] 30).alloc (Obj.cells #[.int .u8 5, .string ⟨#[]⟩] 25))
  have HQ2 := Lib.hid (Holds.new (w2.alloc (Obj.cells #[.int .u32 1, .int .u32 0, .int .u32 2] 30)) #[.int .u8 5, .string ⟨#[]⟩] 25)
  rw [World.size_alloc] at HQ2
  clear g2 HG1 HR1
  have r0 := HR2.out.cell 0
  have r1 := HR2.out.cell 1
  go_wp2_with fail
  with_reducible refine (wk_size _).mono ?_
  rintro e w3 ⟨rfl, g3⟩
  have HG3 := Lib.hid (HG2.out.next0 g3)
  have HR3 := Lib.hid (HR2.out.gr0 g3)
  have HS3 := Lib.hid (HS2.out.gr0 g3)
  have HQ3 := Lib.hid (HQ2.out.gr0 g3)
  clear g3 HG2 HR2 HS2 HQ2 r0 r1
  obtain ⟨bs, hbs⟩ : ∃ b, w2.heap.size = b := ⟨_, rfl⟩
  rw [hbs] at HS3 HQ3 ⊢
  clear hbs
  have r0 := HR3.out.cell 0
  have r1 := HR3.out.cell 1
  have s0 := HS3.out.cell 0
  have s1 := HS3.out.cell 1
  have s2 := HS3.out.cell 2
  have q0 := HQ3.out.cell 0
  have q1 := HQ3.out.cell 1
  go_wp2_with fail
  with_reducible refine (wk_fol _).mono ?_
  rintro e w4 ⟨rfl, g4⟩
  have HG4 := Lib.hid (HG3.out.next0 g4)
  clear g4 HG3
  go_wp2_with fail
  go_ret
  exact ⟨rfl, HG4.out⟩

end Go.Proofs.YtpkhfdcokcchdabDoor
