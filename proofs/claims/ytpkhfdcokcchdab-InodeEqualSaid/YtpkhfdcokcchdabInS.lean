/-
  Layer 16: InodeBack.
-/
import Derived.Test.YtpkhfdcokcchdabInR
namespace Go.Proofs.Ytpkhfdcokcchdab
open Go.RowKit

set_option maxHeartbeats 8000000 in
set_option maxRecDepth 100000 in
theorem iback_any (k : Nat) (l s : Int) (bl : List (Int × Int)) (t : ByteArray) (N : Nat) (ao : Option Addr) (cV : Nat) (n : Int) (S : ByteArray) (w : World) (hv : Sl2 w (.slice ao N cV) bl) (ht : t.size ≤ maxLen) (hk0 : k < 256) (hn : 0 ≤ n ∧ n ≤ 65535) (hS : S.size ≤ maxLen) :
    Calls Try.prog 4 #[.agg #[.int .u8 k, .int .i64 l, .int .i64 s, .slice ao N cV, .string t], .int .u16 n, .string S] w fun e w' => e = .returned (.bool true) ∧ Gr [] w w' := by
  have HG := Lib.hid ((Gr.refl [] w).alloc (Obj.cells #[.int .u8 k, .int .i64 l, .int .i64 s, .slice ao N cV, .string t] 24))
  have HT := Lib.hid (etame16 k l s bl t N ao cV _ (hv.gr0 HG.out) ht hk0)
  have hwn : IntKind.i64.wrap n = n := IntWalk.i64_in _ (by omega)
  have HNN := Lib.hid hn
  unfold maxLen at hS
  clear hv hn
  go_enter Try.func4, Try.ntmps4
  go_wp2_with fail
  refine HT.out.mono ?_
  rintro e w1 ⟨k1, l1, s1, b1, t1, a1, c1, rfl, sb1, hr, g1⟩
  have HR := Lib.hid hr
  have HG1 := Lib.hid (HG.out.next0 g1)
  have hb64 : b1.length ≤ 64 := (r16_facts hr).2.2.2.2.2.2.1
  have HOF := Lib.hid (eof_any k1 l1 s1 b1 t1 b1.length a1 c1 w1 sb1 (by omega))
  clear hr g1 HG HT sb1
  go_wp2_with fail
  with_reducible refine HOF.out.mono ?_
  rintro e w2 ⟨a2, c2, rfl, sb2, g2⟩
  have gA := (Gr.refl [] w2).alloc (Obj.cells #[.int .u8 k1, .int .i64 l1, .int .i64 s1, .slice a2 b1.length c2, .string t1] 31)
  have HG2 := Lib.hid ((HG1.out.next0 g2).next0 gA)
  have HS2 := Lib.hid (sb2.gr0 gA)
  have H7 := Lib.hid (Holds.new w2 #[.int .u8 k1, .int .i64 l1, .int .i64 s1, .slice a2 b1.length c2, .string t1] 31)
  clear g2 gA sb2 HG1 HOF
  obtain ⟨X, hX⟩ := mkS (txtL k1 l1 s1 b1 t1 n)
  have HX := Lib.hid hX
  have hXs : X.size ≤ maxLen := by
    have q := r16_facts HR.out
    rw [Lib.size_eq, hX]
    unfold txtL maxLen
    simp only [List.length_append, putL_length, bytP_len]
    rw [← Lib.size_eq]
    omega
  clear hX
  go_wp2_with fail
  generalize w2.alloc (Obj.cells #[.int .u8 k1, .int .i64 l1, .int .i64 s1, .slice a2 b1.length c2, .string t1] 31) = w3 at *
  generalize w2.heap.size = b7 at *
  with_reducible refine (itext_yes k1 l1 s1 b1 t1 X n b1.length a2 c2 w3 (sl2_parts HS2.out).2.1 rfl HR.out HNN.out.1 HNN.out.2 HX.out).mono ?_
  rintro e w4 ⟨rfl, g4⟩
  have HG4 := Lib.hid (HG2.out.next0 g4)
  have HS4 := Lib.hid (HS2.out.gr0 g4)
  have H74 := Lib.hid (H7.out.gr0 g4)
  have HPA := Lib.hid (iparse_any X w4 hXs)
  clear g4 HG2 HS2 H7 hXs
  go_wp2_with fail
  with_reducible refine HPA.out.mono ?_
  rintro e w5 ⟨g5, ⟨k3, l3, s3, b3, t3, n3, a3, c3, rfl, sb3, hr3, p0, p1, hq⟩ | ⟨_, hno⟩⟩
  · obtain ⟨rfl, rfl, rfl, rfl, rfl, rfl⟩ := txt_inj HR.out hr3 HNN.out.1 HNN.out.2 p0 p1 (by rw [← HX.out]; exact hq)
    have gB := (Gr.refl [] w5).alloc (Obj.cells #[.int .u8 k1, .int .i64 l1, .int .i64 s1, .slice a3 b1.length c3, .string t1] 31)
    have HG5 := Lib.hid ((HG4.out.next0 g5).next0 gB)
    have HS5 := Lib.hid (And.intro ((HS4.out.gr0 g5).gr0 gB) (sb3.gr0 gB))
    have H75 := Lib.hid ((H74.out.gr0 g5).gr0 gB)
    have H9 := Lib.hid (Holds.new w5 #[.int .u8 k1, .int .i64 l1, .int .i64 s1, .slice a3 b1.length c3, .string t1] 31)
    clear g5 gB sb3 hr3 p0 p1 hq HG4 HS4 H74 HPA
    go_wp2_with fail
    generalize w5.alloc (Obj.cells #[.int .u8 k1, .int .i64 l1, .int .i64 s1, .slice a3 b1.length c3, .string t1] 31) = w6 at *
    generalize w5.heap.size = b9 at *
    with_reducible refine (wakes16_any w6).mono ?_
    rintro e w7 ⟨rfl, g7⟩
    have HG7 := Lib.hid (HG5.out.next0 g7)
    have HS7 := Lib.hid (And.intro (HS5.out.1.gr0 g7) (HS5.out.2.gr0 g7))
    have H77 := Lib.hid (H75.out.gr0 g7)
    have H97 := Lib.hid (H9.out.gr0 g7)
    clear g7 HG5 HS5 H75 H9
    have x0 := H77.out.cell 0
    have x1 := H77.out.cell 1
    have x2 := H77.out.cell 2
    have x3 := H77.out.cell 3
    have x4 := H77.out.cell 4
    have y0 := H97.out.cell 0
    have y1 := H97.out.cell 1
    have y2 := H97.out.cell 2
    have y3 := H97.out.cell 3
    have y4 := H97.out.cell 4
    go_wp2_with fail
    refine (iequal_dec k1 l1 s1 b1 t1 k1 l1 s1 b1 t1 b1.length b1.length a2 a3 c2 c3 w7 (sl2_parts HS7.out.1).2.1 (sl2_parts HS7.out.2).2.1 rfl rfl (by omega)).mono ?_
    rintro e w8 ⟨⟨r, hr, rfl⟩, g8⟩
    obtain rfl := hr.2 ⟨rfl, rfl, rfl, rfl, rfl⟩
    have HG8 := Lib.hid (HG7.out.next0 g8)
    clear g8 hr HG7 HS7 H77 H97 x0 x1 x2 x3 x4 y0 y1 y2 y3 y4
    obtain ⟨q, hq⟩ : ∃ q, q = min S.size 400 := ⟨_, rfl⟩
    have hmn := minZ Try.prog (S.size : Int) 400 (q : Int) (by omega)
    have hqs : q ≤ S.size := by omega
    have hqs2 : (q : Int) ≤ (S.size : Int) := by omega
    clear hq
    go_wp2_with fail
    have hYs : (S.extract 0 q).size ≤ maxLen := by rw [ByteArray.size_extract]; unfold maxLen; omega
    have HY9 := Lib.hid (show 9 ≤ 9 from Nat.le_refl _)
    generalize S.extract 0 q = Y at *
    have HPB := Lib.hid (iparse_any Y w8 hYs)
    clear hmn hqs hqs2 hYs
    with_reducible refine HPB.out.mono ?_
    rintro e w9 ⟨g9, ⟨k4, l4, s4, b4, t4, n4, a4, c4, rfl, sb4, hr4, p0, p1, hq⟩ | ⟨rfl, hno⟩⟩
    · have gC := (Gr.refl [] w9).alloc (Obj.cells #[.int .u8 k4, .int .i64 l4, .int .i64 s4, .slice a4 b4.length c4, .string t4] 31)
      have HG9 := Lib.hid ((HG8.out.next0 g9).next0 gC)
      have HS9 := Lib.hid (sb4.gr0 gC)
      have H12 := Lib.hid (Holds.new w9 #[.int .u8 k4, .int .i64 l4, .int .i64 s4, .slice a4 b4.length c4, .string t4] 31)
      have HR4 := Lib.hid (And.intro hr4 (And.intro p0 (And.intro p1 hq)))
      clear g9 gC sb4 hr4 p0 p1 hq HG8 HPB
      go_wp2_with fail
      generalize w9.alloc (Obj.cells #[.int .u8 k4, .int .i64 l4, .int .i64 s4, .slice a4 b4.length c4, .string t4] 31) = w10 at *
      generalize w9.heap.size = b12 at *
      with_reducible refine (itext_yes k4 l4 s4 b4 t4 Y n4 b4.length a4 c4 w10 (sl2_parts HS9.out).2.1 rfl HR4.out.1 HR4.out.2.1 HR4.out.2.2.1 HR4.out.2.2.2).mono ?_
      rintro e w11 ⟨rfl, g11⟩
      have HG11 := Lib.hid (HG9.out.next0 g11)
      have HS11 := Lib.hid (HS9.out.gr0 g11)
      have H13 := Lib.hid (H12.out.gr0 g11)
      clear g11 HG9 HS9 H12
      have x0 := H13.out.cell 0
      have x1 := H13.out.cell 1
      have x2 := H13.out.cell 2
      have x3 := H13.out.cell 3
      have x4 := H13.out.cell 4
      go_wp2_with fail
      with_reducible refine (iright_yes k4 l4 s4 b4 t4 b4.length a4 c4 w11 (sl2_parts HS11.out).2.1 rfl HR4.out.1).mono ?_
      rintro e w12 ⟨rfl, g12⟩
      have HF := Lib.hid (HG11.out.next0 g12)
      clear g12
      go_wp2_with fail
      go_ret
      exact ⟨rfl, HF.out⟩
    · have gC := (Gr.refl [] w9).alloc (Obj.cells #[.int .u8 0, .int .i64 0, .int .i64 0, .slice none 0 0, .string ⟨#[]⟩] 31)
      have HG9 := Lib.hid ((HG8.out.next0 g9).next0 gC)
      clear g9 gC hno HG8 HPB
      go_wp2_with fail
      refine (iequal_dec 0 0 0 [] ⟨#[]⟩ 0 0 0 [] ⟨#[]⟩ 0 0 none none 0 0 _ (Rd2.nil _ _) (Rd2.nil _ _) rfl rfl (by omega)).mono ?_
      rintro e w12 ⟨⟨r, hr, rfl⟩, g12⟩
      obtain rfl := hr.2 ⟨rfl, rfl, rfl, rfl, rfl⟩
      have HF := Lib.hid (HG9.out.next0 g12)
      clear g12 hr
      go_wp2_with fail
      go_ret
      exact ⟨rfl, HF.out⟩
  · exact absurd ⟨k1, l1, s1, b1, t1, n, HR.out, HNN.out.1, HNN.out.2, HX.out⟩ hno

end Go.Proofs.Ytpkhfdcokcchdab
