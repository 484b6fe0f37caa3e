/-
  Layer 12: RecWords, walked.
-/
import Derived.Test.YtpkhfdcokcchdabDoorRcH
import Derived.WalkSmall
namespace Go.Proofs.YtpkhfdcokcchdabDoor
open Go.RowKit

/-- What begins no record's first word. -/
theorem decode_word (x : ByteArray) (w : World) (hs : x.size ≤ 100000) (h : bt x.data.toList 7 ≠ 17) :
    Calls Tryd.prog 13 #[.string x] w fun r w' => r = .returned (.tuple #[.agg #[.int .u32 0, .int .u32 0, .int .u32 0], .agg #[.int .u8 0, .string ⟨#[]⟩], .int .i64 4]) ∧ Gr [] w w' := by
  refine (decode_any x w hs).mono fun r w' ⟨h1, h2⟩ => ⟨?_, h2⟩
  rw [h1, decV_form (form_mark _ h)]
  rfl
def pickB (k j : Nat) (E : ByteArray) : ByteArray := if j ≤ k then E else ⟨#[]⟩
/-- The arguments' boxes, and the two encodings. -/
structure WBox (w W : World) (b k : Nat) (c : Array Value) (s0 s1 E0 E1 : ByteArray) : Prop where
  n : Holds W b c 49
  s : Holds W (b + 1) #[.string s0, .string s1] 50
  e : Holds W (b + 2) #[.string (pickB k 1 E0), .string (pickB k 2 E1)] 50
  g : Gr [] w W
  lo : w.heap.size ≤ b
theorem WBox.gr0 {w W W' : World} {b k : Nat} {c : Array Value} {s0 s1 E0 E1 : ByteArray} (h : WBox w W b k c s0 s1 E0 E1) (g : Gr [] W W') : WBox w W' b k c s0 s1 E0 E1 := ⟨h.n.gr0 g, h.s.gr0 g, h.e.gr0 g, h.g.next0 g, h.lo⟩

theorem WBox.put0 {w W : World} {b : Nat} {c : Array Value} {s0 s1 E0 E1 : ByteArray} (h : WBox w W b 0 c s0 s1 E0 E1) : WBox w (W.setCell ⟨b + 2, 0, none⟩ (.string E0)) b 1 c s0 s1 E0 E1 := by
  have g : Gr [b + 2] W (W.setCell ⟨b + 2, 0, none⟩ (.string E0)) := (Gr.refl _ _).setCell (p := ⟨b + 2, 0, none⟩) (.inl (by simp)) _
  exact ⟨h.n.gr g (by simp), h.s.gr g (by simp), h.e.set 0 _, h.g.setCell (p := ⟨b + 2, 0, none⟩) (.inr (Nat.le_trans h.lo (by simp))) _, h.lo⟩
theorem WBox.put1 {w W : World} {b : Nat} {c : Array Value} {s0 s1 E0 E1 : ByteArray} (h : WBox w W b 1 c s0 s1 E0 E1) : WBox w (W.setCell ⟨b + 2, 1, none⟩ (.string E1)) b 2 c s0 s1 E0 E1 := by
  have g : Gr [b + 2] W (W.setCell ⟨b + 2, 1, none⟩ (.string E1)) := (Gr.refl _ _).setCell (p := ⟨b + 2, 1, none⟩) (.inl (by simp)) _
  exact ⟨h.n.gr g (by simp), h.s.gr g (by simp), h.e.set 1 _, h.g.setCell (p := ⟨b + 2, 1, none⟩) (.inr (Nat.le_trans h.lo (by simp))) _, h.lo⟩
theorem enc_seven (e v q : Nat) (s E : ByteArray) (w : World) (he : e < 4294967296) (hv : v < 4294967296) (hq : q < 4294967296) (hs : s.size ≤ 1024) (hE : E = ⟨(encL e v q 7 s.data.toList).toArray⟩) :
    Calls Tryd.prog 7 #[.agg #[.int .u32 e, .int .u32 v, .int .u32 q], .agg #[.int .u8 7, .string s]] w fun r w' => r = .returned (.tuple #[.string E, .int .i64 0]) ∧ Gr [] w w' := encode_is e v q 7 s E w he hv hq (by omega) (by omega) hs hE

theorem kS1 {W : World} {b i n j : Nat} {x v : Value} (h : W.cell? ⟨b, i, none⟩ = some x) (hn : n ≠ b) : (W.setCell ⟨n, j, none⟩ v).cell? ⟨b, i, none⟩ = some x := by
  rw [World.cell?_setCell_other _ _ _ _ (by simp)]
  exact h
theorem kA1 {W : World} {b i : Nat} {x : Value} {o : Obj} (h : W.cell? ⟨b, i, none⟩ = some x) : (W.alloc o).cell? ⟨b, i, none⟩ = some x := by
  have hb := World.block_lt_of_cell? W _ h
  rw [World.cell?_alloc_lt W o ⟨b, i, none⟩ hb]
  exact h
theorem gr_frozen {w w' : World} {b o : Nat} (h : Gr [] w w') (hb : b < w.heap.size) : w'.frozen? ⟨b, o, none⟩ = w.frozen? ⟨b, o, none⟩ := Below.frozen (p := ⟨b, o, none⟩) h.below0 hb
theorem keep2 {W W' : World} {b : Nat} {x y : Value} (h : W.cell? ⟨b, 0, none⟩ = some x ∧ W.cell? ⟨b, 1, none⟩ = some y) (g : Gr [] W W') : W'.cell? ⟨b, 0, none⟩ = some x ∧ W'.cell? ⟨b, 1, none⟩ = some y :=
  have hb := World.block_lt_of_cell? W _ h.1
  ⟨(g.cell0 hb).trans h.1, (g.cell0 hb).trans h.2⟩
theorem kAA {W : World} {b : Nat} {x y : Value} {o : Obj} (h : W.cell? ⟨b, 0, none⟩ = some x ∧ W.cell? ⟨b, 1, none⟩ = some y) : (W.alloc o).cell? ⟨b, 0, none⟩ = some x ∧ (W.alloc o).cell? ⟨b, 1, none⟩ = some y := ⟨kA1 h.1, kA1 h.2⟩
theorem kSS {W : World} {b n j : Nat} {x y v : Value} (h : W.cell? ⟨b, 0, none⟩ = some x ∧ W.cell? ⟨b, 1, none⟩ = some y) (hn : n ≠ b) : (W.setCell ⟨n, j, none⟩ v).cell? ⟨b, 0, none⟩ = some x ∧ (W.setCell ⟨n, j, none⟩ v).cell? ⟨b, 1, none⟩ = some y := ⟨kS1 h.1 hn, kS1 h.2 hn⟩
theorem after0 {W w5 : World} (g : Gr [] W.drew w5) : W.heap.size ≤ w5.heap.size := g.size
theorem after1 {W w5 : World} {cs : Array Value} {t : TypeId} (g : Gr [] (W.alloc (Obj.cells cs t)).drew w5) : Holds w5 W.heap.size cs t := (Holds.new W cs t).gr0 ((Gr.refl [] _).drew.next0 g)
theorem after2 {W w5 : World} {cs cs' : Array Value} {t t' : TypeId} (g : Gr [] ((W.alloc (Obj.cells cs t)).alloc (Obj.cells cs' t')).drew w5) : Holds w5 W.heap.size cs t ∧ Holds w5 (W.heap.size + 1) cs' t' := by
  have g := (Gr.refl [] _).drew.next0 g
  refine ⟨((Holds.new W cs t).alloc _).gr0 g, ?_⟩
  have := (Holds.new (W.alloc (Obj.cells cs t)) cs' t').gr0 g
  rwa [World.size_alloc] at this
theorem kDD {W : World} {b : Nat} {x y : Value} (h : W.cell? ⟨b, 0, none⟩ = some x ∧ W.cell? ⟨b, 1, none⟩ = some y) : W.drew.cell? ⟨b, 0, none⟩ = some x ∧ W.drew.cell? ⟨b, 1, none⟩ = some y := h

/-- What is mixed, one word more. -/
theorem mix_step (T E : ByteArray) (z k j : Nat) (hE : E.size = z) (hk : k + 8 ≤ z) (hT : T.size = k) (hkj : k = 8 * j) (hj : 1 ≤ j) (hM : ∀ q, 0 < q → 8 * q + 8 ≤ z → bt E.data.toList (8 * q + 7) ≠ 17) (hTm : ∀ q, 1 ≤ q → 8 * q + 8 ≤ k → bt T.data.toList (8 * q + 7) ≠ 17) :
    (T ++ E.extract k (k + 8)).size = k + 8 ∧ ∀ q, 1 ≤ q → 8 * q + 8 ≤ k + 8 → bt (T ++ E.extract k (k + 8)).data.toList (8 * q + 7) ≠ 17 := by
  have hl : E.data.toList.length = z := by rw [← size_list, hE]
  have ht : T.data.toList.length = k := by rw [← size_list, hT]
  constructor
  · rw [size_list, app_toList, List.length_append, ht, ext_toList, List.length_take, List.length_drop, hl]; omega
  · intro q h1 h2
    rw [app_toList, bt_append, ht]
    by_cases hq : 8 * q + 8 ≤ k
    · rw [if_pos (by omega)]; exact hTm q h1 hq
    · obtain rfl : q = j := by omega
      rw [if_neg (by omega), ext_toList, bt_take, if_pos (by omega), bt_drop, show k + (8 * q + 7 - k) = 8 * q + 7 by omega]
      exact hM q (by omega) (by omega)
theorem bit_pick (pk k : Nat) (h : pk < 18446744073709551616) : bits BinOp.and IntKind.u64 ((pk : Int) / 2 ^ k) 1 = 0 ∨ bits BinOp.and IntKind.u64 ((pk : Int) / 2 ^ k) 1 = 1 := by
  have h1 : ((pk : Int) / 2 ^ k) = ((pk / 2 ^ k : Nat) : Int) := by simp
  have h2 := Nat.div_le_self pk (2 ^ k)
  obtain ⟨d, hd⟩ : ∃ d, d = pk / 2 ^ k := ⟨_, rfl⟩
  rw [← hd] at h1 h2
  rw [h1, Go.and_one_u64 _ (by omega) (by omega)]
  omega

set_option maxHeartbeats 8000000 in
set_option maxRecDepth 100000 in
theorem recWords_any (n0 n1 n2 n3 n4 n5 : Nat) (s0 s1 : ByteArray) (pk : Nat) (w : World) (h0 : n0 < 4294967296) (h1 : n1 < 4294967296) (h2 : n2 < 4294967296) (h3 : n3 < 4294967296) (h4 : n4 < 4294967296) (h5 : n5 < 4294967296) (hs0 : s0.size ≤ maxLen) (hs1 : s1.size ≤ maxLen) (hpk : pk < 18446744073709551616) :
    Calls Tryd.prog 6 #[.agg #[.int .u32 n0, .int .u32 n1, .int .u32 n2, .int .u32 n3, .int .u32 n4, .int .u32 n5], .agg #[.string s0, .string s1], .int .u64 pk] w fun e w' => e = .returned (.bool true) ∧ Below w.heap.size w w' := by
  unfold maxLen at hs0 hs1
  obtain ⟨m0, hm0⟩ : ∃ m : Nat, m = min s0.size 400 := ⟨_, rfl⟩
  obtain ⟨m1, hm1⟩ : ∃ m : Nat, m = min s1.size 400 := ⟨_, rfl⟩
  have hn0 := minAB Tryd.prog (s0.size : Int) 400 m0 (by omega)
  have hn1 := minAB Tryd.prog (s1.size : Int) 400 m1 (by omega)
  have a0 : m0 ≤ s0.size := by omega
  have a1 : m1 ≤ s1.size := by omega
  have b0 : m0 ≤ 400 := by omega
  have b1 : m1 ≤ 400 := by omega
  clear hm0 hm1
  obtain ⟨E0, hE0⟩ : ∃ E : ByteArray, E = ⟨(encL n0 n1 n2 7 (s0.extract 0 m0).data.toList).toArray⟩ := ⟨_, rfl⟩
  obtain ⟨E1, hE1⟩ : ∃ E : ByteArray, E = ⟨(encL n3 n4 n5 7 (s1.extract 0 m1).data.toList).toArray⟩ := ⟨_, rfl⟩
  have x0 : (s0.extract 0 m0).size = m0 := by rw [ByteArray.size_extract]; omega
  have x1 : (s1.extract 0 m1).size = m1 := by rw [ByteArray.size_extract]; omega
  obtain ⟨z0, hz0⟩ : ∃ z, z = sizeN m0 := ⟨_, rfl⟩
  obtain ⟨z1, hz1⟩ : ∃ z, z = sizeN m1 := ⟨_, rfl⟩
  have e0 : E0.size = z0 := by rw [hE0, size_list, mk_toList, encL_len, ← size_list, x0, hz0]
  have e1 : E1.size = z1 := by rw [hE1, size_list, mk_toList, encL_len, ← size_list, x1, hz1]
  have r0 : 32 ≤ z0 ∧ z0 ≤ 600 ∧ z0 % 8 = 0 := by rw [hz0]; unfold sizeN nW; omega
  have r1 : 32 ≤ z1 ∧ z1 ≤ 600 ∧ z1 % 8 = 0 := by rw [hz1]; unfold sizeN nW; omega
  have M0 := Lib.hid (show ∀ w, 0 < w → 8 * w + 8 ≤ z0 → bt E0.data.toList (8 * w + 7) ≠ 17 from fun w hw hl => by
    rw [hE0, mk_toList]; exact enc_mark _ _ _ _ _ w hw (by rw [← size_list, x0, ← hz0]; exact hl))
  have M1 := Lib.hid (show ∀ w, 0 < w → 8 * w + 8 ≤ z1 → bt E1.data.toList (8 * w + 7) ≠ 17 from fun w hw hl => by
    rw [hE1, mk_toList]; exact enc_mark _ _ _ _ _ w hw (by rw [← size_list, x1, ← hz1]; exact hl))
  have HE0 := Lib.hid hE0
  have HE1 := Lib.hid hE1
  have R0 := Lib.hid r0
  have R1 := Lib.hid r1
  have p0 := r0.1
  have p1 := r1.1
  have q0 := r0.2.1
  have q1 := r1.2.1
  clear hE0 hE1 hz0 hz1 r0 r1
  go_enter Tryd.func6, Tryd.ntmps6
  go_wp2_with fail
  have B1 : WBox w (((w.alloc (Obj.cells #[.int .u32 n0, .int .u32 n1, .int .u32 n2, .int .u32 n3, .int .u32 n4, .int .u32 n5] 49)).alloc (Obj.cells #[.string s0, .string s1] 50)).alloc (Obj.cells #[.string ⟨#[]⟩, .string ⟨#[]⟩] 50)) w.heap.size 0 #[.int .u32 n0, .int .u32 n1, .int .u32 n2, .int .u32 n3, .int .u32 n4, .int .u32 n5] s0 s1 E0 E1 := by
    refine ⟨((Holds.new w _ _).alloc _).alloc _, ?_, ?_, (((Gr.refl [] w).alloc _).alloc _).alloc _, Nat.le_refl _⟩
    · have := (Holds.new (w.alloc (Obj.cells #[.int .u32 n0, .int .u32 n1, .int .u32 n2, .int .u32 n3, .int .u32 n4, .int .u32 n5] 49)) #[.string s0, .string s1] 50).alloc (Obj.cells #[.string ⟨#[]⟩, .string ⟨#[]⟩] 50)
      rwa [World.size_alloc] at this
    · have := Holds.new ((w.alloc (Obj.cells #[.int .u32 n0, .int .u32 n1, .int .u32 n2, .int .u32 n3, .int .u32 n4, .int .u32 n5] 49)).alloc (Obj.cells #[.string s0, .string s1] 50)) #[.string ⟨#[]⟩, .string ⟨#[]⟩] 50
      rwa [World.size_alloc, World.size_alloc] at this
  generalize ((w.alloc (Obj.cells #[.int .u32 n0, .int .u32 n1, .int .u32 n2, .int .u32 n3, .int .u32 n4, .int .u32 n5] 49)).alloc (Obj.cells #[.string s0, .string s1] 50)).alloc (Obj.cells #[.string ⟨#[]⟩, .string ⟨#[]⟩] 50) = w1 at *
  obtain ⟨bn, hbn⟩ : ∃ b, w.heap.size = b := ⟨_, rfl⟩
  rw [hbn] at B1 ⊢
  clear hbn
  go_loopw [21] (fun i wr => ∃ k : Nat, k ≤ 2 ∧ i = .int .i64 k ∧ WBox w wr bn k #[.int .u32 n0, .int .u32 n1, .int .u32 n2, .int .u32 n3, .int .u32 n4, .int .u32 n5] s0 s1 E0 E1) (fun i _ => 2 - (intOf i).toNat)
  case atStart => exact ⟨0, by omega, rfl, B1⟩
  case round =>
    clear B1
    obtain ⟨k, hk2, rfl, B⟩ := hrel
    have HB := Lib.hid B
    clear B
    obtain rfl | rfl | rfl : k = 0 ∨ k = 1 ∨ k = 2 := by omega
    · rw [show ((0 : Nat) : Int) = 0 from rfl]
      have c0 := kp_cell (HB.out.n.cell 0)
      have c1 := kp_cell (HB.out.n.cell 1)
      have c2 := kp_cell (HB.out.n.cell 2)
      have d0 := kp_cell (HB.out.s.cell 0)
      have hne := kp_ne wr
      have P1 := Lib.hid (fun x : Cls (Kp wr) => calls_below (of_any n0 n1 n2 x.w))
      have P2 := Lib.hid (fun x : Cls (Kp wr) => calls_below (enc_seven n0 n1 n2 (s0.extract 0 m0) E0 x.w h0 h1 h2 (by rw [x0]; omega) HE0.out))
      go_wp2_with fail
      refine wp_region_kp (by kernel_rfl) (by kernel_rfl) ?_
      repeat (go_big_quiet_step ((rename_i x; first
        | with_reducible exact kp_call x (P1.out x)
        | with_reducible exact kp_call x (P2.out x))))
      with_reducible refine wpQuiet_nil ?_
      rintro _ ⟨y, rfl⟩
      have HB2 := Lib.hid (HB.out.gr0 (.ofBelow y.h))
      clear HB P1 P2 c0 c1 c2 d0 hne
      generalize y.w = w2 at *
      clear y
      have f0 := HB2.out.e.cell 0
      have f1 := HB2.out.e.frozen 0
      go_wp2_with fail
      go_roundw
      case rel => exact ⟨1, by omega, rfl, HB2.out.put0⟩
      case measure => simp [intOf]
    · rw [show ((1 : Nat) : Int) = 1 from rfl]
      have c0 := kp_cell (HB.out.n.cell 3)
      have c1 := kp_cell (HB.out.n.cell 4)
      have c2 := kp_cell (HB.out.n.cell 5)
      have d0 := kp_cell (HB.out.s.cell 1)
      have hne := kp_ne wr
      have P1 := Lib.hid (fun x : Cls (Kp wr) => calls_below (of_any n3 n4 n5 x.w))
      have P2 := Lib.hid (fun x : Cls (Kp wr) => calls_below (enc_seven n3 n4 n5 (s1.extract 0 m1) E1 x.w h3 h4 h5 (by rw [x1]; omega) HE1.out))
      go_wp2_with fail
      refine wp_region_kp (by kernel_rfl) (by kernel_rfl) ?_
      repeat (go_big_quiet_step ((rename_i x; first
        | with_reducible exact kp_call x (P1.out x)
        | with_reducible exact kp_call x (P2.out x))))
      with_reducible refine wpQuiet_nil ?_
      rintro _ ⟨y, rfl⟩
      have HB2 := Lib.hid (HB.out.gr0 (.ofBelow y.h))
      clear HB P1 P2 c0 c1 c2 d0 hne
      generalize y.w = w2 at *
      clear y
      have f0 := HB2.out.e.cell 1
      have f1 := HB2.out.e.frozen 1
      go_wp2_with fail
      go_roundw
      case rel => exact ⟨2, by omega, rfl, HB2.out.put1⟩
      case measure => simp [intOf]
    · rw [show ((2 : Nat) : Int) = 2 from rfl]
      clear hn0 hn1 x0 x1 HE0 HE1 h0 h1 h2 h3 h4 h5
      go_wp2_with fail
      go_loopw [11] (fun i wr => ∃ j kk : Nat, 1 ≤ j ∧ kk ≤ z0 ∧ Hid (kk = 8 * j) ∧ i = .int .i64 kk ∧ WBox w wr bn 2 #[.int .u32 n0, .int .u32 n1, .int .u32 n2, .int .u32 n3, .int .u32 n4, .int .u32 n5] s0 s1 E0 E1) (fun i _ => z0 - (intOf i).toNat)
      case atStart => exact ⟨1, 8, by omega, by omega, Lib.hid rfl, rfl, HB.out⟩
      case round =>
        clear HB
        obtain ⟨j, kk, hj1, hkz, hkj, rfl, B⟩ := hrel
        have c0 : wr.cell? ⟨bn + 2, 0, none⟩ = some (.string E0) := B.e.cell 0
        have c1 : wr.cell? ⟨bn + 2, 1, none⟩ = some (.string E1) := B.e.cell 1
        have HB := Lib.hid B
        clear B
        by_cases hkk : kk + 8 ≤ z0
        · have g1 : (kk : Int) ≤ (z0 : Int) := by omega
          obtain ⟨T, hT⟩ : ∃ T, T = E0.extract kk z0 ++ E1 := ⟨_, rfl⟩
          have hTl : T.data.toList = E0.data.toList.drop kk ++ E1.data.toList := by
            rw [hT, app_toList, ext_toList, List.take_of_length_le (by rw [List.length_drop, ← size_list]; omega)]
          have hTs : T.size ≤ 100000 := by rw [size_list, hTl, List.length_append, List.length_drop, ← size_list, ← size_list]; omega
          have hTb : bt T.data.toList 7 ≠ 17 := by
            rw [hTl, bt_append, List.length_drop, ← size_list, if_pos (by omega), bt_drop, hkj.out]
            exact M0.out j (by omega) (by have := hkj.out; omega)
          have HD := Lib.hid (fun W => decode_word T W hTs hTb)
          have hadd := fun (W : World) => (run_string_add_sum (P := Tryd.prog) (w := W) (E0.extract kk z0) E1 (by rw [ByteArray.size_extract]; omega)).trans (by rw [← hT])
          clear hT hTl hTs hTb
          have hl1 := HB.out.e.lt
          go_wp2_with fail
          have HS1 : wr.cell? ⟨bn + 2, 0, none⟩ = some (.string E0) ∧ wr.cell? ⟨bn + 2, 1, none⟩ = some (.string E1) := ⟨c0, c1⟩
          have HS0 : wr.drew.cell? ⟨bn + 2, 0, none⟩ = some (.string E0) ∧ wr.drew.cell? ⟨bn + 2, 1, none⟩ = some (.string E1) := ⟨c0, c1⟩
          go_region_held3 (fun w' : World => w'.cell? ⟨bn + 2, 0, none⟩ = some (.string E0) ∧ w'.cell? ⟨bn + 2, 1, none⟩ = some (.string E1)) (with_reducible (first | assumption | ((repeat (first | assumption | refine kDD ?_ | refine kAA ?_ | refine kSS ?_ (by omega))); done))) ((first
            | (go_at_call 13; (with_reducible refine (HD.out _).mono ?_); rintro r w5 ⟨rfl, g5⟩; (with_reducible have s5 := keep2 (by assumption) g5); have s5a := s5.1; have s5b := s5.2; (first | ((with_reducible have yh := after2 g5); have l5 : wr.heap.size + 1 < w5.heap.size := yh.2.lt; have m5 : wr.heap.size < w5.heap.size := yh.1.lt; (first | (have ya0 : w5.cell? ⟨wr.heap.size, 0, none⟩ = some (.int .u32 0) := yh.1.cell 0; have za0 : w5.frozen? ⟨wr.heap.size, 0, none⟩ = false := yh.1.frozen 0; have ya1 : w5.cell? ⟨wr.heap.size, 1, none⟩ = some (.int .u32 0) := yh.1.cell 1; have za1 : w5.frozen? ⟨wr.heap.size, 1, none⟩ = false := yh.1.frozen 1; have ya2 : w5.cell? ⟨wr.heap.size, 2, none⟩ = some (.int .u32 0) := yh.1.cell 2; have za2 : w5.frozen? ⟨wr.heap.size, 2, none⟩ = false := yh.1.frozen 2) | (have ya0 : w5.cell? ⟨wr.heap.size, 0, none⟩ = some (.int .u8 0) := yh.1.cell 0; have za0 : w5.frozen? ⟨wr.heap.size, 0, none⟩ = false := yh.1.frozen 0; have ya1 : w5.cell? ⟨wr.heap.size, 1, none⟩ = some (.string ⟨#[]⟩) := yh.1.cell 1; have za1 : w5.frozen? ⟨wr.heap.size, 1, none⟩ = false := yh.1.frozen 1)); (first | (have yb0 : w5.cell? ⟨wr.heap.size + 1, 0, none⟩ = some (.int .u32 0) := yh.2.cell 0; have zb0 : w5.frozen? ⟨wr.heap.size + 1, 0, none⟩ = false := yh.2.frozen 0; have yb1 : w5.cell? ⟨wr.heap.size + 1, 1, none⟩ = some (.int .u32 0) := yh.2.cell 1; have zb1 : w5.frozen? ⟨wr.heap.size + 1, 1, none⟩ = false := yh.2.frozen 1; have yb2 : w5.cell? ⟨wr.heap.size + 1, 2, none⟩ = some (.int .u32 0) := yh.2.cell 2; have zb2 : w5.frozen? ⟨wr.heap.size + 1, 2, none⟩ = false := yh.2.frozen 2) | (have yb0 : w5.cell? ⟨wr.heap.size + 1, 0, none⟩ = some (.int .u8 0) := yh.2.cell 0; have zb0 : w5.frozen? ⟨wr.heap.size + 1, 0, none⟩ = false := yh.2.frozen 0; have yb1 : w5.cell? ⟨wr.heap.size + 1, 1, none⟩ = some (.string ⟨#[]⟩) := yh.2.cell 1; have zb1 : w5.frozen? ⟨wr.heap.size + 1, 1, none⟩ = false := yh.2.frozen 1)); clear yh) | ((with_reducible have yh := after1 g5); have m5 : wr.heap.size < w5.heap.size := yh.lt; (first | (have ya0 : w5.cell? ⟨wr.heap.size, 0, none⟩ = some (.int .u32 0) := yh.cell 0; have za0 : w5.frozen? ⟨wr.heap.size, 0, none⟩ = false := yh.frozen 0; have ya1 : w5.cell? ⟨wr.heap.size, 1, none⟩ = some (.int .u32 0) := yh.cell 1; have za1 : w5.frozen? ⟨wr.heap.size, 1, none⟩ = false := yh.frozen 1; have ya2 : w5.cell? ⟨wr.heap.size, 2, none⟩ = some (.int .u32 0) := yh.cell 2; have za2 : w5.frozen? ⟨wr.heap.size, 2, none⟩ = false := yh.frozen 2) | (have ya0 : w5.cell? ⟨wr.heap.size, 0, none⟩ = some (.int .u8 0) := yh.cell 0; have za0 : w5.frozen? ⟨wr.heap.size, 0, none⟩ = false := yh.frozen 0; have ya1 : w5.cell? ⟨wr.heap.size, 1, none⟩ = some (.string ⟨#[]⟩) := yh.cell 1; have za1 : w5.frozen? ⟨wr.heap.size, 1, none⟩ = false := yh.frozen 1)); clear yh) | (have m5 : wr.heap.size ≤ w5.heap.size := after0 g5)); have H5 := Lib.hid g5; clear g5)))
          all_goals go_wp2_with fail
          all_goals go_roundw
          all_goals first | (exact ⟨j + 1, kk + 8, by omega, by omega, Lib.hid (by have := hkj.out; omega), by simp, HB.out.gr0 (by repeat (with_reducible first | exact Gr.refl _ _ | (refine Gr.setCell ?_ (.inr (by (try dsimp only); omega)) _) | refine Gr.alloc ?_ _ | refine Gr.drew ?_ | (refine Gr.next0 ?_ (Hid.out (by assumption)))))⟩) | (simp [intOf]; omega)
        · have g1 : ¬ (kk : Int) + 8 ≤ (z0 : Int) := by omega
          go_wp2_with fail
          go_loopw [15, 16] (fun v i wr => ∃ (j kk : Nat) (T : ByteArray), 1 ≤ j ∧ kk ≤ z0 ∧ kk ≤ z1 ∧ T.size = kk ∧ Hid (kk = 8 * j) ∧ Hid (∀ q, 1 ≤ q → 8 * q + 8 ≤ kk → bt T.data.toList (8 * q + 7) ≠ 17) ∧ v = .string T ∧ i = .int .i64 kk ∧ WBox w wr bn 2 #[.int .u32 n0, .int .u32 n1, .int .u32 n2, .int .u32 n3, .int .u32 n4, .int .u32 n5] s0 s1 E0 E1) (fun _ i _ => z0 - (intOf i).toNat)
          case atStart => exact ⟨1, 8, E0.extract 0 8, by omega, by omega, by omega, by rw [ByteArray.size_extract]; omega, Lib.hid rfl, Lib.hid (fun q h1 h2 => by omega), rfl, rfl, HB.out⟩
          case round =>
            clear HB c0 c1
            obtain ⟨jj, k2, T, hj2, hk0, hk1, hT, hkj2, hTm, rfl, rfl, B⟩ := hrel
            have c0 : wr.cell? ⟨bn + 2, 0, none⟩ = some (.string E0) := B.e.cell 0
            have c1 : wr.cell? ⟨bn + 2, 1, none⟩ = some (.string E1) := B.e.cell 1
            have HB := Lib.hid B
            clear B
            have hmin := minAB Tryd.prog (z0 : Int) z1 (min z0 z1) (by omega)
            by_cases hkk : k2 + 8 ≤ min z0 z1
            · have g2 : (k2 : Int) + 8 ≤ ((min z0 z1 : Nat) : Int) := by omega
              rcases bit_pick pk (k2 / 8 % 64) hpk with hbit | hbit
              · obtain ⟨t1, t2⟩ := mix_step T E0 z0 k2 jj e0 (by omega) hT hkj2.out hj2 M0.out hTm.out
                have ga : (k2 : Int) + 8 ≤ (z0 : Int) := by omega
                have gc : (k2 : Int) ≤ (k2 : Int) + 8 := by omega
                have gd : (0 : Int) ≤ (k2 : Int) + 8 := by omega
                have ge : ((k2 : Int) + 8).toNat = k2 + 8 := by omega
                have hT2 := Lib.hid t2
                clear t2
                obtain ⟨T2, hT2e⟩ : ∃ T2, T2 = T ++ E0.extract k2 (k2 + 8) := ⟨_, rfl⟩
                rw [← hT2e] at t1 hT2
                have hadd := fun (W : World) => (run_string_add_sum (P := Tryd.prog) (w := W) T (E0.extract k2 (k2 + 8)) (by rw [ByteArray.size_extract]; omega)).trans (by rw [← hT2e])
                clear hT2e
                go_wp2_with fail
                clear gc gd ge
                go_roundw
                case rel => exact ⟨jj + 1, k2 + 8, T2, by omega, by omega, by omega, t1, Lib.hid (by have := hkj2.out; omega), hT2, rfl, by simp, HB.out⟩
                case measure => simp [intOf]; omega
              · obtain ⟨t1, t2⟩ := mix_step T E1 z1 k2 jj e1 (by omega) hT hkj2.out hj2 M1.out hTm.out
                have ga : (k2 : Int) + 8 ≤ (z1 : Int) := by omega
                have gc : (k2 : Int) ≤ (k2 : Int) + 8 := by omega
                have gd : (0 : Int) ≤ (k2 : Int) + 8 := by omega
                have ge : ((k2 : Int) + 8).toNat = k2 + 8 := by omega
                have hT2 := Lib.hid t2
                clear t2
                obtain ⟨T2, hT2e⟩ : ∃ T2, T2 = T ++ E1.extract k2 (k2 + 8) := ⟨_, rfl⟩
                rw [← hT2e] at t1 hT2
                have hadd := fun (W : World) => (run_string_add_sum (P := Tryd.prog) (w := W) T (E1.extract k2 (k2 + 8)) (by rw [ByteArray.size_extract]; omega)).trans (by rw [← hT2e])
                clear hT2e
                go_wp2_with fail
                clear gc gd ge
                go_roundw
                case rel => exact ⟨jj + 1, k2 + 8, T2, by omega, by omega, by omega, t1, Lib.hid (by have := hkj2.out; omega), hT2, rfl, by simp, HB.out⟩
                case measure => simp [intOf]; omega
            · have g2 : ¬ (k2 : Int) + 8 ≤ ((min z0 z1 : Nat) : Int) := by omega
              go_wp2_with fail
              clear c0 c1 hmin g2
              go_loopw [17] (fun i wr => ∃ q kk : Nat, 1 ≤ q ∧ kk ≤ k2 ∧ Hid (kk = 8 * q) ∧ i = .int .i64 kk ∧ WBox w wr bn 2 #[.int .u32 n0, .int .u32 n1, .int .u32 n2, .int .u32 n3, .int .u32 n4, .int .u32 n5] s0 s1 E0 E1) (fun i _ => k2 - (intOf i).toNat)
              case atStart => exact ⟨1, 8, by omega, by have := hkj2.out; omega, Lib.hid rfl, rfl, HB.out⟩
              case round =>
                clear HB
                obtain ⟨q, k4, hq1, hk4, hq4, rfl, B⟩ := hrel
                have HB := Lib.hid B
                clear B
                by_cases hkk4 : k4 + 8 ≤ k2
                · have g4 : (k4 : Int) ≤ (k2 : Int) := by omega
                  obtain ⟨U, hU⟩ : ∃ U, U = T.extract k4 k2 := ⟨_, rfl⟩
                  have hUl : U.data.toList = T.data.toList.drop k4 := by
                    rw [hU, ext_toList, List.take_of_length_le (by rw [List.length_drop, ← size_list]; omega)]
                  have hUs : U.size ≤ 100000 := by rw [size_list, hUl, List.length_drop, ← size_list]; omega
                  have hUb : bt U.data.toList 7 ≠ 17 := by
                    rw [hUl, bt_drop, hq4.out]
                    exact hTm.out q (by omega) (by have := hq4.out; omega)
                  have HD := Lib.hid (fun W => decode_word U W hUs hUb)
                  have hext := Lib.hid hU.symm
                  clear hUl hUs hUb hU
                  have HX := hext.out
                  clear hext
                  go_wp2_with (go_at_call 13; (with_reducible refine (HD.out _).mono ?_); rintro r w5 ⟨rfl, g5⟩; have m5 : wr.heap.size ≤ w5.heap.size := g5.size; have H5 := Lib.hid g5; clear g5)
                  all_goals go_roundw
                  all_goals first | (exact ⟨q + 1, k4 + 8, by omega, by omega, Lib.hid (by have := hq4.out; omega), by simp, HB.out.gr0 (by repeat (with_reducible first | exact Gr.refl _ _ | (refine Gr.setCell ?_ (.inr (by (try dsimp only); omega)) _) | refine Gr.alloc ?_ _ | refine Gr.drew ?_ | (refine Gr.next0 ?_ (Hid.out (by assumption)))))⟩) | (simp [intOf]; omega)
                · have g4 : ¬ (k4 : Int) + 8 ≤ (k2 : Int) := by omega
                  go_wp2_with (go_at_call 10; (with_reducible refine (wakes12_any _).mono ?_); rintro r w6 ⟨rfl, g6⟩)
                  go_ret
                  exact ⟨rfl, (HB.out.g.next0 g6).below0⟩

theorem walk_RecWords (a0 : List Int) (a1 : List ByteArray) (a2 : Int) (l0 : a0.length = 2 * 3) (w0 : ∀ x ∈ a0, (Lit.int .u32 x).wf = true) (l1 : a1.length = 2) (w1 : ∀ x ∈ a1, x.size ≤ maxLen) (w2 : (Lit.int .u64 a2).wf = true) (w : World) :
    Calls Tryd.prog 6 #[.agg (a0.map (Value.int .u32)).toArray, .agg (a1.map Value.string).toArray, .int .u64 a2] w fun e w' => e = .returned (.bool true) ∧ Below w.heap.size w w' := by
  match a0, l0, a1, l1 with
  | [x, y, z, p, q, r], _, [s, t], _ =>
    have hx : ∀ v ∈ [x, y, z, p, q, r], 0 ≤ v ∧ v < 4294967296 := fun v hv => by have := bounds_u32 (w0 v hv); omega
    have hk := bounds_u64 w2
    simp only [List.mem_cons, List.mem_nil_iff, or_false, forall_eq_or_imp, forall_eq] at hx w1
    obtain ⟨⟨x0, x1⟩, ⟨y0, y1⟩, ⟨z0, z1⟩, ⟨p0, p1⟩, ⟨q0, q1⟩, ⟨r0, r1⟩⟩ := hx
    obtain ⟨x, rfl⟩ := Int.eq_ofNat_of_zero_le x0
    obtain ⟨y, rfl⟩ := Int.eq_ofNat_of_zero_le y0
    obtain ⟨z, rfl⟩ := Int.eq_ofNat_of_zero_le z0
    obtain ⟨p, rfl⟩ := Int.eq_ofNat_of_zero_le p0
    obtain ⟨q, rfl⟩ := Int.eq_ofNat_of_zero_le q0
    obtain ⟨r, rfl⟩ := Int.eq_ofNat_of_zero_le r0
    obtain ⟨k, rfl⟩ := Int.eq_ofNat_of_zero_le hk.1
    exact recWords_any x y z p q r s t k w (by omega) (by omega) (by omega) (by omega) (by omega) (by omega) w1.1 w1.2 (by omega)

end Go.Proofs.YtpkhfdcokcchdabDoor
