/-
  Layer 12: the reference's Size and Decode.
-/
import Derived.Test.YtpkhfdcokcchdabDoorRcK
import Derived.StillTailTactics
namespace Go.Proofs.YtpkhfdcokcchdabDoor
open Go.RowKit

theorem rsize_any (n : Nat) (w : World) (h : n ≤ 1000000) :
    Calls Tryd.prog 31 #[.int .i64 n] w fun e w' => e = .returned (.int .i64 (sizeN n : Nat)) ∧ w = w' := by
  go_enter Tryd.func31, Tryd.ntmps31
  go_wp2_with fail
  go_ret
  refine ⟨?_, rfl⟩
  show Ending.returned (.int .i64 (8 * (((n : Int) + 6) / 7) + 32)) = _
  have : 8 * (((n : Int) + 6) / 7) + 32 = ((sizeN n : Nat) : Int) := by unfold sizeN nW; omega
  rw [this]

def rbadV (e : Int) : Value := .tuple #[.agg #[.int .u32 0, .int .u32 0, .int .u32 0, .int .u8 0, .string ⟨#[]⟩], .int .i64 e]
/-- What the reference answers. -/
def rdecV (S : List UInt8) : Value :=
  if formOk S = true then (if sumOk S = true then .tuple #[.agg #[.int .u32 (dE S : Nat), .int .u32 (dV S : Nat), .int .u32 (dQ S : Nat), .int .u8 (dKind S : Nat), .string ⟨(dBody S (dLen S)).toArray⟩], .int .i64 0] else rbadV 5) else rbadV 4
theorem rdecV_form {S : List UInt8} (h : formOk S = false) : rdecV S = rbadV 4 := by unfold rdecV; rw [h]; rfl
theorem rdecV_sum {S : List UInt8} (h : formOk S = true) (h2 : sumOk S = false) : rdecV S = rbadV 5 := by unfold rdecV; rw [h, h2]; rfl
theorem rdecV_yes {S : List UInt8} (h : formOk S = true) (h2 : sumOk S = true) : rdecV S = .tuple #[.agg #[.int .u32 (dE S : Nat), .int .u32 (dV S : Nat), .int .u32 (dQ S : Nat), .int .u8 (dKind S : Nat), .string ⟨(dBody S (dLen S)).toArray⟩], .int .i64 0] := by unfold rdecV; rw [h, h2]; rfl
/-- The result's cells, and the empty record's. -/
structure ZBox (w0 w : World) (b : Nat) : Prop where
  o : Holds w b #[.int .u32 0, .int .u32 0, .int .u32 0, .int .u8 0, .string ⟨#[]⟩] 35
  n : Holds w (b + 1) #[.int .u32 0, .int .u32 0, .int .u32 0, .int .u8 0, .string ⟨#[]⟩] 35
  g : Gr [] w0 w
  lo : w0.heap.size ≤ b
theorem ZBox.gr0 {w0 w w' : World} {b : Nat} (h : ZBox w0 w b) (g : Gr [] w w') : ZBox w0 w' b := ⟨h.o.gr0 g, h.n.gr0 g, h.g.next0 g, h.lo⟩

/-- What the reference compares. -/
theorem form_ref (S : List UInt8) (z : Nat) (hz : z = sizeN (dLen S)) (h1 : 24 ≤ S.length) (h2 : dLen S ≤ 1024) (h3 : z ≤ S.length) (h4 : dKind S ≠ 0) :
    formOk S = true ↔ (encT S).take (z - 8) = S.take (z - 8) ∧ (encT S).drop (z - 4) = (S.drop (z - 4)).take 4 := by
  have hg := size_ge (dLen S)
  have e1 : (encT S).take (z - 8) = preT S := by
    rw [encT_eq, List.take_append_of_le_length (by rw [preT_len, ← hz]; omega), List.take_of_length_le (by rw [preT_len, ← hz]; omega)]
  have e2 : (encT S).drop (z - 4) = [0, 0, 0, 48] := by
    have hl : (preT S ++ putL (sum32 (preT S)).toNat 4).length = z - 4 := by rw [List.length_append, preT_len, putL_length, ← hz]; omega
    rw [encT_eq, sumW_parts, ← List.append_assoc, ← hl, List.drop_left]
  rw [formOk_iff, e1, e2, ← hz]
  constructor
  · rintro ⟨_, _, _, _, a, b⟩; exact ⟨a, b.symm⟩
  · rintro ⟨a, b⟩; exact ⟨h1, h2, h3, h4, a, b.symm⟩
theorem bs_beq_false {x y : ByteArray} (h : x ≠ y) : (x.toList == y.toList) = false := by
  rw [beq_eq_false_iff_ne]
  intro e
  apply h
  apply ByteArray.ext
  apply Array.ext'
  rw [ByteArray.toList_eq, ByteArray.toList_eq] at e
  exact e
theorem bs_beq_true {x y : ByteArray} (h : x = y) : (x.toList == y.toList) = true := by rw [h]; exact beq_self_eq_true _
theorem rget_is (x : ByteArray) (d : Nat) (w : World) (hx : x.size ≤ 8) (hd : getL x.data.toList = d) : Calls Tryd.prog 32 #[.string x] w fun e w' => e = .returned (.int .u64 d) ∧ w = w' := by
  refine (rget_any x w (by unfold maxLen; omega)).mono fun e w' ⟨h1, h2⟩ => ⟨?_, h2⟩
  rw [h1, List.take_of_length_le (by rw [← size_list]; exact hx), hd]
/-- The record's cells, k parts of its stamp told. -/
def cellsK (e v q kd : Nat) : Nat → Array Value
  | 0 => #[.int .u32 0, .int .u32 0, .int .u32 0, .int .u8 kd, .string ⟨#[]⟩]
  | 1 => #[.int .u32 e, .int .u32 0, .int .u32 0, .int .u8 kd, .string ⟨#[]⟩]
  | 2 => #[.int .u32 e, .int .u32 v, .int .u32 0, .int .u8 kd, .string ⟨#[]⟩]
  | _ => #[.int .u32 e, .int .u32 v, .int .u32 q, .int .u8 kd, .string ⟨#[]⟩]
/-- The record that is told, too. -/
structure RBx (w0 w : World) (b r : Nat) (cs : Array Value) : Prop where
  z : ZBox w0 w b
  c : Holds w r cs 35
  lo : b + 1 < r
theorem RBx.gr0 {w0 w w' : World} {b r : Nat} {cs : Array Value} (h : RBx w0 w b r cs) (g : Gr [] w w') : RBx w0 w' b r cs := ⟨h.z.gr0 g, h.c.gr0 g, h.lo⟩
theorem RBx.put {w0 w : World} {b r : Nat} {cs : Array Value} (h : RBx w0 w b r cs) (i : Nat) (x : Value) : RBx w0 (w.setCell ⟨r, i, none⟩ x) b r (cs.setIfInBounds i x) := by
  have hl := h.lo
  have hb := h.z.lo
  have g : Gr [r] w (w.setCell ⟨r, i, none⟩ x) := (Gr.refl _ _).setCell (p := ⟨r, i, none⟩) (.inl (by simp)) _
  exact ⟨⟨h.z.o.gr g (by simp; omega), h.z.n.gr g (by simp; omega), h.z.g.setCell (p := ⟨r, i, none⟩) (.inr (by simp; omega)) _, hb⟩, h.c.set i _, hl⟩

theorem dLen_two (S : List UInt8) (h : 24 ≤ S.length) : dLen S = (bt (decHead S) 0).toNat + 256 * (bt (decHead S) 1).toNat := by
  have hl := decHead_len S h
  unfold dLen
  match hd : decHead S, hl with
  | x :: y :: t, _ => simp [getL, bt]

set_option maxHeartbeats 16000000 in
set_option maxRecDepth 100000 in
theorem rdecode_any (s : ByteArray) (w : World) (hs : s.size ≤ 100000) :
    Calls Tryd.prog 14 #[.string s] w fun r w' => r = .returned (rdecV s.data.toList) ∧ Gr [] w w' := by
  obtain ⟨S, hS⟩ : ∃ S, S = s.data.toList := ⟨_, rfl⟩
  have hSl : S.length = s.size := by rw [hS, size_list]
  rw [← hS]
  have HS := Lib.hid hS
  have HSL := Lib.hid hSl
  clear hS hSl
  obtain ⟨b, hb⟩ : ∃ b, w.heap.size = b := ⟨_, rfl⟩
  have D0 : ZBox w ((w.alloc (Obj.cells #[.int .u32 0, .int .u32 0, .int .u32 0, .int .u8 0, .string ⟨#[]⟩] 35)).alloc (Obj.cells #[.int .u32 0, .int .u32 0, .int .u32 0, .int .u8 0, .string ⟨#[]⟩] 35)) b := by
    subst hb
    refine ⟨(Holds.new w _ _).alloc _, ?_, ((Gr.refl [] w).alloc _).alloc _, Nat.le_refl _⟩
    have := Holds.new (w.alloc (Obj.cells #[.int .u32 0, .int .u32 0, .int .u32 0, .int .u8 0, .string ⟨#[]⟩] 35)) #[.int .u32 0, .int .u32 0, .int .u32 0, .int .u8 0, .string ⟨#[]⟩] 35
    rwa [World.size_alloc] at this
  have HD0 := Lib.hid D0
  have HBB := Lib.hid hb
  clear D0 hb
  by_cases h24 : s.size < 24
  · have hi : (s.size : Int) < 24 := by omega
    go_enter Tryd.func14, Tryd.ntmps14
    go_wp2_with fail
    exact bodyPost_ret (v := rbadV 4) (by simp [results, Tryd.results14, go_sem, rbadV]) rfl ⟨by rw [rdecV_form (form_short (by rw [HSL.out]; exact h24))], ((Gr.refl [] w).alloc _).alloc _⟩
  · have hi : ¬ (s.size : Int) < 24 := by omega
    go_enter Tryd.func14, Tryd.ntmps14
    go_wp2_with fail
    rw [HBB.out]
    generalize (w.alloc (Obj.cells #[.int .u32 0, .int .u32 0, .int .u32 0, .int .u8 0, .string ⟨#[]⟩] 35)).alloc (Obj.cells #[.int .u32 0, .int .u32 0, .int .u32 0, .int .u8 0, .string ⟨#[]⟩] 35) = wa at *
    obtain ⟨X, hX⟩ : ∃ X, X = s.extract 0 7 ++ s.extract 8 15 := ⟨_, rfl⟩
    obtain ⟨H, hH⟩ : ∃ H, H = X ++ s.extract 16 23 := ⟨_, rfl⟩
    have x1 : (s.extract 0 7).size = 7 := by rw [ByteArray.size_extract]; omega
    have x2 : (s.extract 8 15).size = 7 := by rw [ByteArray.size_extract]; omega
    have x3 : (s.extract 16 23).size = 7 := by rw [ByteArray.size_extract]; omega
    have xX : X.size = 14 := by rw [hX, size_list, app_toList, List.length_append, ← size_list, ← size_list, x1, x2]
    have hHL : H.data.toList = decHead S := by
      rw [hH, hX, app_toList, app_toList, ext_toList, ext_toList, ext_toList, ← HS.out, List.append_assoc]
      rfl
    have hHs : H.size = 21 := by rw [size_list, hHL, decHead_len S (by rw [HSL.out]; omega)]
    have ha1 := fun (W : World) => (run_string_add_sum (P := Tryd.prog) (w := W) (s.extract 0 7) (s.extract 8 15) (by rw [x1, x2]; omega)).trans (by rw [← hX])
    have ha2 := fun (W : World) => (run_string_add_sum (P := Tryd.prog) (w := W) X (s.extract 16 23) (by rw [xX, x3]; omega)).trans (by rw [← hH])
    have HHL := Lib.hid hHL
    clear hX hH x1 x2 x3 xX hHL hi
    have l7 : (7 : Int) ≤ (s.size : Int) := by omega
    have l15 : (15 : Int) ≤ (s.size : Int) := by omega
    have l23 : (23 : Int) ≤ (s.size : Int) := by omega
    go_quiet (fail)
    clear ha1 ha2 l7 l15 l23
    have HD1 := Lib.hid (HD0.out.gr0 ((Gr.refl [] wa).drewN nq))
    clear HD0
    generalize wa.drewN nq = wb at *
    obtain ⟨n, hn⟩ : ∃ n, n = dLen S := ⟨_, rfl⟩
    have hn2 := dLen_two S (by rw [HSL.out]; omega)
    obtain ⟨y0, hy0⟩ : ∃ y, y = (bt (decHead S) 0).toNat := ⟨_, rfl⟩
    obtain ⟨y1, hy1⟩ : ∃ y, y = (bt (decHead S) 1).toNat := ⟨_, rfl⟩
    have z0 : y0 < 256 := by rw [hy0]; exact UInt8.toNat_lt _
    have z1 : y1 < 256 := by rw [hy1]; exact UInt8.toNat_lt _
    rw [← hy0, ← hy1, ← hn] at hn2
    have i0 : 0 < H.size := by omega
    have i1 : 1 < H.size := by omega
    have k0 : H[0].toNat = y0 := by rw [hy0, ← HHL.out, bt_get _ _ (by rw [← size_list]; exact i0)]; rfl
    have k1 : H[1].toNat = y1 := by rw [hy1, ← HHL.out, bt_get _ _ (by rw [← size_list]; exact i1)]; rfl
    have j0 : (0 : Int) < (H.size : Int) := by omega
    have j1 : (1 : Int) < (H.size : Int) := by omega
    have e0 : IntKind.i64.wrap (y0 : Int) = (y0 : Int) := IntWalk.i64_in _ (by omega)
    have e1 : IntKind.i64.wrap (y1 : Int) = (y1 : Int) := IntWalk.i64_in _ (by omega)
    have e2 : IntKind.i64.wrap (256 * (y1 : Int)) = 256 * (y1 : Int) := IntWalk.i64_in _ (by omega)
    have e3 : IntKind.i64.wrap ((y0 : Int) + 256 * (y1 : Int)) = (n : Int) := by rw [IntWalk.i64_in _ (by omega)]; omega
    have hn3 : n < 65536 := by omega
    have HN := Lib.hid hn
    clear hn hn2 hy0 hy1
    go_wp2_with fail
    go_quiet (fail)
    have HD2 := Lib.hid (HD1.out.gr0 ((Gr.refl [] wb).drewN nq))
    clear HD1 k0 k1 j0 j1 e0 e1 e2 e3
    generalize wb.drewN nq = wc at *
    by_cases hn1 : 1024 < n
    · have g1 : (1024 : Int) < (n : Int) := by omega
      have o0 := HD2.out.o.cell 0
      have n0 := HD2.out.n.cell 0
      have f0 := HD2.out.o.frozen 0
      have o1 := HD2.out.o.cell 1
      have n1 := HD2.out.n.cell 1
      have f1 := HD2.out.o.frozen 1
      have o2 := HD2.out.o.cell 2
      have n2 := HD2.out.n.cell 2
      have f2 := HD2.out.o.frozen 2
      have o3 := HD2.out.o.cell 3
      have n3 := HD2.out.n.cell 3
      have f3 := HD2.out.o.frozen 3
      have o4 := HD2.out.o.cell 4
      have n4 := HD2.out.n.cell 4
      have f4 := HD2.out.o.frozen 4
      go_wp2_with fail
      refine bodyPost_ret (v := rbadV 4) (by simp [results, Tryd.results14, go_sem, rbadV, *]) rfl ⟨by rw [rdecV_form (form_long (by rw [← HN.out]; exact hn1))], ?_⟩
      repeat (with_reducible first | exact HD2.out.g | (refine Gr.setCell ?_ (.inr (by have := HD2.out.lo; (try dsimp only); omega)) _) | refine Gr.alloc ?_ _ | refine Gr.drew ?_)
    · have g1 : ¬ (1024 : Int) < (n : Int) := by omega
      obtain ⟨z, hz⟩ : ∃ z, z = sizeN n := ⟨_, rfl⟩
      have HSZ := Lib.hid (fun W => rsize_any n W (by omega))
      rw [← hz] at HSZ
      have HZ := Lib.hid hz
      have hz1 : 32 ≤ z ∧ z ≤ 1300 := by rw [hz]; unfold sizeN nW; omega
      clear hz
      go_wp2_with fail
      refine (HSZ.out _).mono ?_
      rintro r w3 ⟨rfl, rfl⟩
      clear HSZ g1
      by_cases hzs : s.size < z
      · have g2 : (s.size : Int) < (z : Int) := by omega
        have o0 := HD2.out.o.cell 0
        have n0 := HD2.out.n.cell 0
        have f0 := HD2.out.o.frozen 0
        have o1 := HD2.out.o.cell 1
        have n1 := HD2.out.n.cell 1
        have f1 := HD2.out.o.frozen 1
        have o2 := HD2.out.o.cell 2
        have n2 := HD2.out.n.cell 2
        have f2 := HD2.out.o.frozen 2
        have o3 := HD2.out.o.cell 3
        have n3 := HD2.out.n.cell 3
        have f3 := HD2.out.o.frozen 3
        have o4 := HD2.out.o.cell 4
        have n4 := HD2.out.n.cell 4
        have f4 := HD2.out.o.frozen 4
        go_wp2_with fail
        refine bodyPost_ret (v := rbadV 4) (by simp [results, Tryd.results14, go_sem, rbadV, *]) rfl ⟨by rw [rdecV_form (form_size (by rw [HSL.out, ← HN.out, ← HZ.out]; exact hzs))], ?_⟩
        repeat (with_reducible first | exact HD2.out.g | (refine Gr.setCell ?_ (.inr (by have := HD2.out.lo; (try dsimp only); omega)) _) | refine Gr.alloc ?_ _ | refine Gr.drew ?_)
      · have g2 : ¬ (s.size : Int) < (z : Int) := by omega
        obtain ⟨kd, hkd⟩ : ∃ kd, kd = dKind S := ⟨_, rfl⟩
        have hkl : kd < 256 := by rw [hkd]; exact dKind_lt S
        have i2 : 2 < H.size := by omega
        have hkk : H[2].toNat = kd := by
          rw [hkd]
          unfold dKind
          rw [← HHL.out, bt_get _ _ (by rw [← size_list]; exact i2)]
          rfl
        have j2 : (2 : Int) < (H.size : Int) := by omega
        have HKD := Lib.hid hkd
        clear hkd
        obtain ⟨e, hE⟩ : ∃ e, e = dE S := ⟨_, rfl⟩
        obtain ⟨v, hV⟩ : ∃ v, v = dV S := ⟨_, rfl⟩
        obtain ⟨q, hQ⟩ : ∃ q, q = dQ S := ⟨_, rfl⟩
        have el : e < 4294967296 := by rw [hE]; exact get4_lt _
        have vl : v < 4294967296 := by rw [hV]; exact get4_lt _
        have ql : q < 4294967296 := by rw [hQ]; exact get4_lt _
        have HE := Lib.hid hE
        have HV := Lib.hid hV
        have HQ := Lib.hid hQ
        clear hE hV hQ
        go_wp2_with fail
        obtain ⟨rb, hrb⟩ : ∃ r, wc.heap.size = r := ⟨_, rfl⟩
        have R0 : RBx w (wc.alloc (Obj.cells #[.int .u32 0, .int .u32 0, .int .u32 0, .int .u8 kd, .string ⟨#[]⟩] 35)) b rb (cellsK e v q kd 0) := by
          subst hrb
          exact ⟨HD2.out.gr0 ((Gr.refl [] wc).alloc _), Holds.new _ _ _, by have := HD2.out.n.lt; omega⟩
        rw [hrb]
        clear hrb hkk j2 HD2
        generalize wc.alloc (Obj.cells #[.int .u32 0, .int .u32 0, .int .u32 0, .int .u8 kd, .string ⟨#[]⟩] 35) = wd at *
        go_loopw [9] (fun i wr => ∃ k : Nat, k ≤ 3 ∧ i = .int .i64 k ∧ RBx w wr b rb (cellsK e v q kd k)) (fun i _ => 3 - (intOf i).toNat)
        case atStart => exact ⟨0, by omega, rfl, R0⟩
        case round =>
          clear R0
          obtain ⟨k, hk3, rfl, B⟩ := hrel
          have HB := Lib.hid B
          clear B
          obtain rfl | rfl | rfl | rfl : k = 0 ∨ k = 1 ∨ k = 2 ∨ k = 3 := by omega
          · rw [show ((0 : Nat) : Int) = 0 from rfl]
            have G0 := Lib.hid (fun W => rget_is (H.extract 3 7) e W (by rw [ByteArray.size_extract]; omega) (by rw [ext_toList, HHL.out, HE.out]; rfl))
            have h3 : (3 : Int) ≤ (H.size : Int) := by omega
            have h7b : (7 : Int) ≤ (H.size : Int) := by omega
            have ck := HB.out.c.cell 0
            have fk := HB.out.c.frozen 0
            go_wp2_with fail
            refine (G0.out _).mono ?_
            rintro r w5 ⟨rfl, rfl⟩
            clear G0 h3 h7b
            have uw : IntKind.u32.wrap (e : Int) = (e : Int) := by rw [IntKind.wrap_u32]; omega
            go_wp2_with fail
            go_roundw
            case rel => exact ⟨1, by omega, rfl, HB.out.put 0 _⟩
            case measure => simp [intOf]
          · rw [show ((1 : Nat) : Int) = 1 from rfl]
            have G1 := Lib.hid (fun W => rget_is (H.extract 7 11) v W (by rw [ByteArray.size_extract]; omega) (by rw [ext_toList, HHL.out, HV.out]; rfl))
            have h7 : (7 : Int) ≤ (H.size : Int) := by omega
            have h11b : (11 : Int) ≤ (H.size : Int) := by omega
            have ck := HB.out.c.cell 1
            have fk := HB.out.c.frozen 1
            go_wp2_with fail
            refine (G1.out _).mono ?_
            rintro r w5 ⟨rfl, rfl⟩
            clear G1 h7 h11b
            have uw : IntKind.u32.wrap (v : Int) = (v : Int) := by rw [IntKind.wrap_u32]; omega
            go_wp2_with fail
            go_roundw
            case rel => exact ⟨2, by omega, rfl, HB.out.put 1 _⟩
            case measure => simp [intOf]
          · rw [show ((2 : Nat) : Int) = 2 from rfl]
            have G2 := Lib.hid (fun W => rget_is (H.extract 11 15) q W (by rw [ByteArray.size_extract]; omega) (by rw [ext_toList, HHL.out, HQ.out]; rfl))
            have h11 : (11 : Int) ≤ (H.size : Int) := by omega
            have h15b : (15 : Int) ≤ (H.size : Int) := by omega
            have ck := HB.out.c.cell 2
            have fk := HB.out.c.frozen 2
            go_wp2_with fail
            refine (G2.out _).mono ?_
            rintro r w5 ⟨rfl, rfl⟩
            clear G2 h11 h15b
            have uw : IntKind.u32.wrap (q : Int) = (q : Int) := by rw [IntKind.wrap_u32]; omega
            go_wp2_with fail
            go_roundw
            case rel => exact ⟨3, by omega, rfl, HB.out.put 2 _⟩
            case measure => simp [intOf]
          · rw [show ((3 : Nat) : Int) = 3 from rfl]
            have hnS : n ≤ 1024 := by omega
            go_wp2_with fail
            go_loopw [11] (fun i wr => ∃ (k : Nat) (T : ByteArray), k ≤ n ∧ i = .int .i64 k ∧ T.size = k ∧ Hid (T.data.toList = (dBody S n).take k) ∧ RBx w wr b rb #[.int .u32 e, .int .u32 v, .int .u32 q, .int .u8 kd, .string T]) (fun i _ => n - (intOf i).toNat)
            case atStart => exact ⟨0, ⟨#[]⟩, by omega, rfl, rfl, Lib.hid rfl, HB.out⟩
            case round =>
              clear HB
              obtain ⟨k, T, hkn, rfl, hT, hTl, B⟩ := hrel
              have HB := Lib.hid B
              clear B
              by_cases hk : k < n
              · have hki : (k : Int) < (n : Int) := by omega
                obtain ⟨pp, hpp⟩ : ∃ p, p = 24 + 8 * (k / 7) + k % 7 := ⟨_, rfl⟩
                obtain ⟨p1, hp1⟩ : ∃ p1, p1 = pp + 1 := ⟨_, rfl⟩
                have hp : 24 + 8 * ((k : Int) / 7) + (k : Int) % 7 = (pp : Int) := by omega
                have hps : p1 ≤ s.size := by
                  have := HZ.out
                  unfold sizeN nW at this
                  omega
                obtain ⟨T2, hT2⟩ : ∃ T2, T2 = T ++ s.extract pp p1 := ⟨_, rfl⟩
                have hs1 : (s.extract pp p1).size = 1 := by rw [ByteArray.size_extract]; omega
                have hT2s : T2.size = k + 1 := by rw [hT2, size_list, app_toList, List.length_append, ← size_list, ← size_list, hT, hs1]
                have hT2l : T2.data.toList = (dBody S n).take (k + 1) := by
                  rw [hT2, app_toList, hTl.out]
                  apply ext_bt
                  · rw [List.length_append, List.length_take, List.length_take, dBody_len, ← size_list, hs1]; omega
                  · intro i hi
                    rw [List.length_append, List.length_take, dBody_len, ← size_list, hs1] at hi
                    rw [bt_append, List.length_take, dBody_len, bt_take, bt_take, if_pos (show i < k + 1 by omega)]
                    by_cases hik : i < k
                    · rw [if_pos (by omega), if_pos hik]
                    · obtain rfl : i = k := by omega
                      rw [if_neg (by omega), ext_toList, bt_take, if_pos (by omega), bt_drop, dBody_bt _ _ _ hk, ← HS.out]
                      congr 1
                      omega
                have HT2L := Lib.hid hT2l
                have hadd := fun (W : World) => (run_string_add_sum (P := Tryd.prog) (w := W) T (s.extract pp p1) (by rw [hT, hs1]; omega)).trans (by rw [← hT2])
                have hw1 : IntKind.i64.wrap ((pp : Int) + 1) = (p1 : Int) := by rw [IntWalk.i64_in _ (by omega)]; omega
                have l1 : (pp : Int) ≤ (p1 : Int) := by omega
                have l2 : (p1 : Int) ≤ (s.size : Int) := by omega
                have c4 := HB.out.c.cell 4
                have f4 := HB.out.c.frozen 4
                clear hpp hp1 hT2 hT2l hs1
                go_wp2_with fail
                go_still_tail 9, (by kernel_rfl)
                go_wp2_with fail
                go_roundw
                case rel => exact ⟨k + 1, T2, by omega, by simp, hT2s, HT2L, (HB.out.put 4 (.string T2)).gr0 ((Gr.refl [] _).drew)⟩
                case measure => simp [intOf]; omega
              · have hki : ¬ (k : Int) < (n : Int) := by omega
                obtain rfl : k = n := by omega
                have hTL : T.data.toList = dBody S (dLen S) := by
                  rw [hTl.out, List.take_of_length_le (by rw [dBody_len]; omega), HN.out]
                have HTL := Lib.hid hTL
                have r0 := HB.out.c.cell 0
                have r1 := HB.out.c.cell 1
                have r2 := HB.out.c.cell 2
                have r3 := HB.out.c.cell 3
                have r4 := HB.out.c.cell 4
                clear hTL hTl
                by_cases hk0 : kd = 0
                · have HEn := Lib.hid (fun W => rencode_no e v q kd T W (.inl hk0))
                  have HK0 := Lib.hid hk0
                  clear hk0
                  go_wp2_with fail
                  with_reducible refine (HEn.out _).mono ?_
                  rintro r w6 ⟨rfl, g6⟩
                  have HB6 := Lib.hid (HB.out.gr0 g6)
                  clear g6 HB HEn r0 r1 r2 r3 r4
                  have o0 := HB6.out.z.o.cell 0
                  have n0 := HB6.out.z.n.cell 0
                  have f0 := HB6.out.z.o.frozen 0
                  have r0 := HB6.out.c.cell 0
                  have o1 := HB6.out.z.o.cell 1
                  have n1 := HB6.out.z.n.cell 1
                  have f1 := HB6.out.z.o.frozen 1
                  have r1 := HB6.out.c.cell 1
                  have o2 := HB6.out.z.o.cell 2
                  have n2 := HB6.out.z.n.cell 2
                  have f2 := HB6.out.z.o.frozen 2
                  have r2 := HB6.out.c.cell 2
                  have o3 := HB6.out.z.o.cell 3
                  have n3 := HB6.out.z.n.cell 3
                  have f3 := HB6.out.z.o.frozen 3
                  have r3 := HB6.out.c.cell 3
                  have o4 := HB6.out.z.o.cell 4
                  have n4 := HB6.out.z.n.cell 4
                  have f4 := HB6.out.z.o.frozen 4
                  have r4 := HB6.out.c.cell 4
                  go_wp2_with fail
                  refine bodyPost_ret (v := rbadV 4) (by simp [results, Tryd.results14, go_sem, rbadV, *]) rfl ⟨by rw [rdecV_form (form_kind (by rw [← HKD.out]; exact HK0.out))], ?_⟩
                  repeat (with_reducible first | exact HB6.out.z.g | (refine Gr.setCell ?_ (.inr (by have := HB6.out.z.lo; (try dsimp only); omega)) _) | refine Gr.alloc ?_ _ | refine Gr.drew ?_)
                · have HEy := Lib.hid (fun W => rencode_yes e v q kd T W el vl ql hkl hk0 (by omega))
                  have hf := form_ref S z (by rw [HZ.out, HN.out]) (by rw [HSL.out]; omega) (by rw [← HN.out]; omega) (by rw [HSL.out]; omega) (by rw [← HKD.out]; exact hk0)
                  obtain ⟨E, hEe⟩ : ∃ E : ByteArray, E = ⟨(encL e v q kd T.data.toList).toArray⟩ := ⟨_, rfl⟩
                  rw [← hEe] at HEy
                  have hEL : E.data.toList = encT S := by
                    rw [hEe, mk_toList, HTL.out, HE.out, HV.out, HQ.out, HKD.out]
                    rfl
                  have hEs : E.size = z := by rw [size_list, hEL, encT_len, ← HN.out, HZ.out]
                  have hso := fun (h : formOk S = true) => sumOk_iff S h
                  rw [← hEL, ← HN.out, ← HZ.out, HS.out] at hso
                  rw [← hEL, HS.out] at hf
                  obtain ⟨z8, hz8⟩ : ∃ y, y = z - 8 := ⟨_, rfl⟩
                  obtain ⟨z4, hz4⟩ : ∃ y, y = z - 4 := ⟨_, rfl⟩
                  rw [← hz8, ← hz4] at hf
                  have w8 : IntKind.i64.wrap ((z : Int) - 8) = (z8 : Int) := by rw [IntWalk.i64_in _ (by omega)]; omega
                  have w4 : IntKind.i64.wrap ((z : Int) - 4) = (z4 : Int) := by rw [IntWalk.i64_in _ (by omega)]; omega
                  have t1 : (z8 : Int) ≤ (z : Int) := by omega
                  have t2 : (z8 : Int) ≤ (s.size : Int) := by omega
                  have t3 : (z4 : Int) ≤ (z : Int) := by omega
                  have t5 : (z : Int) ≤ (s.size : Int) := by omega
                  obtain ⟨A1, hA1⟩ : ∃ A, E.extract 0 z8 = A := ⟨_, rfl⟩
                  obtain ⟨A2, hA2⟩ : ∃ A, s.extract 0 z8 = A := ⟨_, rfl⟩
                  obtain ⟨B1, hB1⟩ : ∃ A, E.extract z4 z = A := ⟨_, rfl⟩
                  obtain ⟨B2, hB2⟩ : ∃ A, s.extract z4 z = A := ⟨_, rfl⟩
                  obtain ⟨C2, hC2⟩ : ∃ A, s.extract 0 z = A := ⟨_, rfl⟩
                  have kA : A1 = A2 ↔ E.data.toList.take z8 = s.data.toList.take z8 := by
                    rw [← hA1, ← hA2, ← extL, ← extL]
                    exact ⟨fun h => by rw [h], fun h => data_eq h⟩
                  have kB : B1 = B2 ↔ E.data.toList.drop z4 = (s.data.toList.drop z4).take 4 := by
                    have q1 : (E.extract z4 z).data.toList = E.data.toList.drop z4 := by rw [ext_toList, List.take_of_length_le (by rw [List.length_drop, ← size_list, hEs]; exact Nat.le_refl _)]
                    have q2 : (s.extract z4 z).data.toList = (s.data.toList.drop z4).take 4 := by rw [ext_toList, show z - z4 = 4 by omega]
                    rw [← hB1, ← hB2, ← q1, ← q2]
                    exact ⟨fun h => by rw [h], fun h => data_eq h⟩
                  have kC : E = C2 ↔ E.data.toList = s.data.toList.take z := by
                    rw [← hC2, ← extL]
                    exact ⟨fun h => by rw [← h], fun h => data_eq h⟩
                  have KF := Lib.hid (show (formOk s.data.toList = true ↔ A1 = A2 ∧ B1 = B2) by rw [hf, kA, kB])
                  have KS := Lib.hid (show (formOk s.data.toList = true → (sumOk s.data.toList = true ↔ E = C2)) from fun h => by rw [kC]; exact hso h)
                  clear hf kA kB kC hso hz8 hz4 hEe hEL
                  have HK0 := Lib.hid hk0
                  clear hk0
                  go_wp2_with fail
                  with_reducible refine (HEy.out _).mono ?_
                  rintro r w6 ⟨rfl, g6⟩
                  have HB6 := Lib.hid (HB.out.gr0 g6)
                  clear g6 HB HEy r0 r1 r2 r3 r4
                  by_cases hA : A1 = A2
                  · have hAt := bs_beq_true hA
                    have HA := Lib.hid hA
                    clear hA
                    by_cases hB : B1 = B2
                    · have hBt := bs_beq_true hB
                      have HBq := Lib.hid hB
                      clear hB
                      have hne := kp_ne w6
                      go_wp2_with fail
                      refine wp_region_kp (by kernel_rfl) (by kernel_rfl) ?_
                      repeat (go_big_quiet_step (fail))
                      with_reducible refine wpQuiet_nil ?_
                      rintro _ ⟨y, rfl⟩
                      have HB7 := Lib.hid (HB6.out.gr0 (.ofBelow y.h))
                      clear HB6 hne
                      generalize y.w = w7 at *
                      clear y
                      clear hAt hBt
                      have hform : formOk S = true := by rw [HS.out]; exact KF.out.2 ⟨HA.out, HBq.out⟩
                      by_cases hC : E = C2
                      · have hCt := bs_beq_true hC
                        have hsum : sumOk S = true := by rw [HS.out]; exact (KS.out (by rw [← HS.out]; exact hform)).2 hC
                        have HR := Lib.hid (show rdecV S = .tuple #[.agg #[.int .u32 e, .int .u32 v, .int .u32 q, .int .u8 kd, .string T], .int .i64 0] by
                          rw [rdecV_yes hform hsum, ← HE.out, ← HV.out, ← HQ.out, ← HKD.out]
                          have : T = ⟨(dBody S (dLen S)).toArray⟩ := data_eq (by rw [HTL.out])
                          rw [← this])
                        clear hC hsum hform
                        have o0 := HB7.out.z.o.cell 0
                        have n0 := HB7.out.z.n.cell 0
                        have f0 := HB7.out.z.o.frozen 0
                        have r0 := HB7.out.c.cell 0
                        have o1 := HB7.out.z.o.cell 1
                        have n1 := HB7.out.z.n.cell 1
                        have f1 := HB7.out.z.o.frozen 1
                        have r1 := HB7.out.c.cell 1
                        have o2 := HB7.out.z.o.cell 2
                        have n2 := HB7.out.z.n.cell 2
                        have f2 := HB7.out.z.o.frozen 2
                        have r2 := HB7.out.c.cell 2
                        have o3 := HB7.out.z.o.cell 3
                        have n3 := HB7.out.z.n.cell 3
                        have f3 := HB7.out.z.o.frozen 3
                        have r3 := HB7.out.c.cell 3
                        have o4 := HB7.out.z.o.cell 4
                        have n4 := HB7.out.z.n.cell 4
                        have f4 := HB7.out.z.o.frozen 4
                        have r4 := HB7.out.c.cell 4
                        go_wp2_with fail
                        refine bodyPost_ret (v := .tuple #[.agg #[.int .u32 e, .int .u32 v, .int .u32 q, .int .u8 kd, .string T], .int .i64 0]) (by simp [results, Tryd.results14, go_sem, *]) rfl ⟨by rw [HR.out], ?_⟩
                        repeat (with_reducible first | exact HB7.out.z.g | (refine Gr.setCell ?_ (.inr (by have := HB7.out.z.lo; (try dsimp only); omega)) _) | refine Gr.alloc ?_ _ | refine Gr.drew ?_)
                      · have hCt := bs_beq_false hC
                        have hsum : sumOk S = false := by rw [HS.out]; exact Bool.eq_false_iff.2 fun h => hC ((KS.out (by rw [← HS.out]; exact hform)).1 h)
                        have HF := Lib.hid hform
                        have HSM := Lib.hid hsum
                        clear hC hsum hform
                        have o0 := HB7.out.z.o.cell 0
                        have n0 := HB7.out.z.n.cell 0
                        have f0 := HB7.out.z.o.frozen 0
                        have r0 := HB7.out.c.cell 0
                        have o1 := HB7.out.z.o.cell 1
                        have n1 := HB7.out.z.n.cell 1
                        have f1 := HB7.out.z.o.frozen 1
                        have r1 := HB7.out.c.cell 1
                        have o2 := HB7.out.z.o.cell 2
                        have n2 := HB7.out.z.n.cell 2
                        have f2 := HB7.out.z.o.frozen 2
                        have r2 := HB7.out.c.cell 2
                        have o3 := HB7.out.z.o.cell 3
                        have n3 := HB7.out.z.n.cell 3
                        have f3 := HB7.out.z.o.frozen 3
                        have r3 := HB7.out.c.cell 3
                        have o4 := HB7.out.z.o.cell 4
                        have n4 := HB7.out.z.n.cell 4
                        have f4 := HB7.out.z.o.frozen 4
                        have r4 := HB7.out.c.cell 4
                        go_wp2_with fail
                        refine bodyPost_ret (v := rbadV 5) (by simp [results, Tryd.results14, go_sem, rbadV, *]) rfl ⟨by rw [rdecV_sum HF.out HSM.out], ?_⟩
                        repeat (with_reducible first | exact HB7.out.z.g | (refine Gr.setCell ?_ (.inr (by have := HB7.out.z.lo; (try dsimp only); omega)) _) | refine Gr.alloc ?_ _ | refine Gr.drew ?_)
                    · have hBt := bs_beq_false hB
                      have HBq := Lib.hid hB
                      clear hB
                      have hne := kp_ne w6
                      go_wp2_with fail
                      refine wp_region_kp (by kernel_rfl) (by kernel_rfl) ?_
                      repeat (go_big_quiet_step (fail))
                      with_reducible refine wpQuiet_nil ?_
                      rintro _ ⟨y, rfl⟩
                      have HB7 := Lib.hid (HB6.out.gr0 (.ofBelow y.h))
                      clear HB6 hne
                      generalize y.w = w7 at *
                      clear y
                      clear hAt hBt
                      have o0 := HB7.out.z.o.cell 0
                      have n0 := HB7.out.z.n.cell 0
                      have f0 := HB7.out.z.o.frozen 0
                      have r0 := HB7.out.c.cell 0
                      have o1 := HB7.out.z.o.cell 1
                      have n1 := HB7.out.z.n.cell 1
                      have f1 := HB7.out.z.o.frozen 1
                      have r1 := HB7.out.c.cell 1
                      have o2 := HB7.out.z.o.cell 2
                      have n2 := HB7.out.z.n.cell 2
                      have f2 := HB7.out.z.o.frozen 2
                      have r2 := HB7.out.c.cell 2
                      have o3 := HB7.out.z.o.cell 3
                      have n3 := HB7.out.z.n.cell 3
                      have f3 := HB7.out.z.o.frozen 3
                      have r3 := HB7.out.c.cell 3
                      have o4 := HB7.out.z.o.cell 4
                      have n4 := HB7.out.z.n.cell 4
                      have f4 := HB7.out.z.o.frozen 4
                      have r4 := HB7.out.c.cell 4
                      go_wp2_with fail
                      refine bodyPost_ret (v := rbadV 4) (by simp [results, Tryd.results14, go_sem, rbadV, *]) rfl ⟨by rw [rdecV_form (by rw [HS.out]; exact Bool.eq_false_iff.2 fun h => HBq.out (KF.out.1 h).2)], ?_⟩
                      repeat (with_reducible first | exact HB7.out.z.g | (refine Gr.setCell ?_ (.inr (by have := HB7.out.z.lo; (try dsimp only); omega)) _) | refine Gr.alloc ?_ _ | refine Gr.drew ?_)
                  · have hAt := bs_beq_false hA
                    have HA := Lib.hid hA
                    clear hA
                    have hne := kp_ne w6
                    go_wp2_with fail
                    refine wp_region_kp (by kernel_rfl) (by kernel_rfl) ?_
                    repeat (go_big_quiet_step (fail))
                    with_reducible refine wpQuiet_nil ?_
                    rintro _ ⟨y, rfl⟩
                    have HB7 := Lib.hid (HB6.out.gr0 (.ofBelow y.h))
                    clear HB6 hne
                    generalize y.w = w7 at *
                    clear y
                    clear hAt
                    have o0 := HB7.out.z.o.cell 0
                    have n0 := HB7.out.z.n.cell 0
                    have f0 := HB7.out.z.o.frozen 0
                    have r0 := HB7.out.c.cell 0
                    have o1 := HB7.out.z.o.cell 1
                    have n1 := HB7.out.z.n.cell 1
                    have f1 := HB7.out.z.o.frozen 1
                    have r1 := HB7.out.c.cell 1
                    have o2 := HB7.out.z.o.cell 2
                    have n2 := HB7.out.z.n.cell 2
                    have f2 := HB7.out.z.o.frozen 2
                    have r2 := HB7.out.c.cell 2
                    have o3 := HB7.out.z.o.cell 3
                    have n3 := HB7.out.z.n.cell 3
                    have f3 := HB7.out.z.o.frozen 3
                    have r3 := HB7.out.c.cell 3
                    have o4 := HB7.out.z.o.cell 4
                    have n4 := HB7.out.z.n.cell 4
                    have f4 := HB7.out.z.o.frozen 4
                    have r4 := HB7.out.c.cell 4
                    go_wp2_with fail
                    refine bodyPost_ret (v := rbadV 4) (by simp [results, Tryd.results14, go_sem, rbadV, *]) rfl ⟨by rw [rdecV_form (by rw [HS.out]; exact Bool.eq_false_iff.2 fun h => HA.out (KF.out.1 h).1)], ?_⟩
                    repeat (with_reducible first | exact HB7.out.z.g | (refine Gr.setCell ?_ (.inr (by have := HB7.out.z.lo; (try dsimp only); omega)) _) | refine Gr.alloc ?_ _ | refine Gr.drew ?_)

end Go.Proofs.YtpkhfdcokcchdabDoor
