/-
  Layer 12: RecBack, walked.
-/
import Derived.Test.YtpkhfdcokcchdabDoorRcG
import Derived.Test.YtpkhfdcokcchdabDoorLawF
import Derived.Deep.RegionHeld3
import Derived.StillTailTactics
namespace Go.Proofs.YtpkhfdcokcchdabDoor
open Go.RowKit

theorem or_one : ∀ t : Fin 256, bits .or .u8 1 (t.val : Int) = ((1 ||| t.val : Nat) : Int) ∧ (1 ||| t.val) ≠ 0 ∧ (1 ||| t.val) < 256 := by decide +kernel
/-- What no record is told of. -/
theorem decode_bad (x : ByteArray) (w : World) (hs : x.size ≤ 100000) (h : ¬ (formOk x.data.toList = true ∧ sumOk x.data.toList = true)) :
    Calls Tryd.prog 13 #[.string x] w fun r w' => (∃ c : Nat, Hid (c = 4 ∨ c = 5) ∧ r = .returned (.tuple #[.agg #[.int .u32 0, .int .u32 0, .int .u32 0], .agg #[.int .u8 0, .string ⟨#[]⟩], .int .i64 c])) ∧ Gr [] w w' := by
  refine (decode_any x w hs).mono fun r w' ⟨h1, h2⟩ => ⟨?_, h2⟩
  rw [h1]
  cases f : formOk x.data.toList with
  | false => exact ⟨4, Lib.hid (.inl rfl), by rw [decV_form f]; rfl⟩
  | true =>
    cases g : sumOk x.data.toList with
    | false => exact ⟨5, Lib.hid (.inr rfl), by rw [decV_sum f g]; rfl⟩
    | true => exact absurd ⟨f, g⟩ h
theorem size_is_yes (kind : Nat) (s : ByteArray) (z : Nat) (w : World) (hk : kind ≠ 0) (hs : s.size ≤ 1024) (hz : z = sizeN s.size) :
    Calls Tryd.prog 12 #[.agg #[.int .u8 kind, .string s]] w fun e w' => e = .returned (.int .i64 z) ∧ Gr [] w w' := by
  subst hz
  exact rsize_yes kind s w hk hs

theorem bt_set (l : List UInt8) (p : Nat) (v : UInt8) {i : Nat} (h : p < l.length) : bt (l.set p v) i = if i = p then v else bt l i := by
  unfold bt
  simp only [List.getD, List.getElem?_set]
  by_cases e : p = i
  · subst e; simp [h]
  · rw [if_neg e, if_neg (fun q => e q.symm)]
/-- The arguments' boxes, and the record's. -/
structure BBox (w W : World) (b n0 n1 n2 t0 t1 t2 kd : Nat) (X : ByteArray) : Prop where
  n : Holds W b #[.int .u32 n0, .int .u32 n1, .int .u32 n2] 23
  t : Holds W (b + 1) #[.int .u8 t0, .int .u8 t1, .int .u8 t2] 46
  r : Holds W (b + 2) #[.int .u8 kd, .string X] 25
  g : Gr [] w W
theorem BBox.gr0 {w W W' : World} {b n0 n1 n2 t0 t1 t2 kd : Nat} {X : ByteArray} (h : BBox w W b n0 n1 n2 t0 t1 t2 kd X) (g : Gr [] W W') : BBox w W' b n0 n1 n2 t0 t1 t2 kd X := ⟨h.n.gr0 g, h.t.gr0 g, h.r.gr0 g, h.g.next0 g⟩

set_option maxHeartbeats 8000000 in
set_option maxRecDepth 100000 in
theorem recBack_any (n0 n1 n2 : Nat) (s : ByteArray) (t0 t1 t2 : Nat) (w : World) (hn0 : n0 < 4294967296) (hn1 : n1 < 4294967296) (hn2 : n2 < 4294967296) (hs : s.size ≤ maxLen) (ht0 : t0 < 256) (ht1 : t1 < 256) (ht2 : t2 < 256) :
    Calls Tryd.prog 5 #[.agg #[.int .u32 n0, .int .u32 n1, .int .u32 n2], .string s, .agg #[.int .u8 t0, .int .u8 t1, .int .u8 t2]] w fun e w' => e = .returned (.bool true) ∧ Below w.heap.size w w' := by
  unfold maxLen at hs
  obtain ⟨m, hm⟩ : ∃ m : Nat, m = min s.size 900 := ⟨_, rfl⟩
  have hmn := minAB Tryd.prog (s.size : Int) 900 m (by omega)
  have hm1 : m ≤ s.size := by omega
  have hm2 : m ≤ 900 := by omega
  clear hm
  obtain ⟨hor, hk0, hk1⟩ := or_one ⟨t2, ht2⟩
  simp only at hor hk0 hk1
  obtain ⟨kd, hkd⟩ : ∃ kd, kd = 1 ||| t2 := ⟨_, rfl⟩
  rw [← hkd] at hor hk0 hk1
  have HK0 := Lib.hid hk0
  clear hkd hk0
  have hreq := req
  have hseq := seq
  have hgR := fun (W : World) (op : BinOp) (x y : Operand) (xs ys : Array Value) => run_eqGuard_agg (P := Tryd.prog) (w := W) op 25 x y xs ys rguardR
  have hgS := fun (W : World) (op : BinOp) (x y : Operand) (xs ys : Array Value) => run_eqGuard_agg (P := Tryd.prog) (w := W) op 30 x y xs ys rguardS
  obtain ⟨X, hX⟩ : ∃ X, X = s.extract 0 m := ⟨_, rfl⟩
  have hXs : X.size ≤ 900 := by rw [hX, ByteArray.size_extract]; omega
  have HX := Lib.hid hX
  clear hX
  go_enter Tryd.func5, Tryd.ntmps5
  go_wp2_with fail
  rw [← HX.out]
  have B1 : BBox w (((w.alloc (Obj.cells #[.int .u32 n0, .int .u32 n1, .int .u32 n2] 23)).alloc (Obj.cells #[.int .u8 t0, .int .u8 t1, .int .u8 t2] 46)).alloc (Obj.cells #[.int .u8 kd, .string X] 25)) w.heap.size n0 n1 n2 t0 t1 t2 kd X := by
    refine ⟨((Holds.new w _ _).alloc _).alloc _, ?_, ?_, (((Gr.refl [] w).alloc _).alloc _).alloc _⟩
    · have := (Holds.new (w.alloc (Obj.cells #[.int .u32 n0, .int .u32 n1, .int .u32 n2] 23)) #[.int .u8 t0, .int .u8 t1, .int .u8 t2] 46).alloc (Obj.cells #[.int .u8 kd, .string X] 25)
      rwa [World.size_alloc] at this
    · have := Holds.new ((w.alloc (Obj.cells #[.int .u32 n0, .int .u32 n1, .int .u32 n2] 23)).alloc (Obj.cells #[.int .u8 t0, .int .u8 t1, .int .u8 t2] 46)) #[.int .u8 kd, .string X] 25
      rwa [World.size_alloc, World.size_alloc] at this
  have HB := Lib.hid B1
  clear B1
  generalize ((w.alloc (Obj.cells #[.int .u32 n0, .int .u32 n1, .int .u32 n2] 23)).alloc (Obj.cells #[.int .u8 t0, .int .u8 t1, .int .u8 t2] 46)).alloc (Obj.cells #[.int .u8 kd, .string X] 25) = w1 at *
  obtain ⟨bn, hbn⟩ : ∃ b, w.heap.size = b := ⟨_, rfl⟩
  rw [hbn] at HB ⊢
  clear hbn
  obtain ⟨E, hE⟩ : ∃ E : ByteArray, E = ⟨(encL n0 n1 n2 kd X.data.toList).toArray⟩ := ⟨_, rfl⟩
  obtain ⟨z, hz⟩ : ∃ z, z = sizeN X.size := ⟨_, rfl⟩
  have hEl : E.data.toList = encL n0 n1 n2 kd X.data.toList := by rw [hE]
  have hEs : E.size = z := by rw [size_list, hEl, encL_len, ← size_list, hz]
  have hz1 : 32 ≤ z ∧ z ≤ 1200 := by rw [hz]; unfold sizeN nW; omega
  have hz2 := hz1.1
  have hz3 := hz1.2
  have HEL := Lib.hid hEl
  have HEQ := Lib.hid hE
  have HZ := Lib.hid hz
  have hXb : X.data.toList.length ≤ 1024 := by rw [← size_list]; omega
  have HXB := Lib.hid hXb
  clear hz1 hEl hE hz hXb
  have c0 := kp_cell (HB.out.n.cell 0)
  have c1 := kp_cell (HB.out.n.cell 1)
  have c2 := kp_cell (HB.out.n.cell 2)
  have r0 := kp_cell (HB.out.r.cell 0)
  have r1 := kp_cell (HB.out.r.cell 1)
  have hne := kp_ne w1
  have P1 := Lib.hid (fun x : Cls (Kp w1) => calls_below (of_any n0 n1 n2 x.w))
  have P2 := Lib.hid (fun x : Cls (Kp w1) => calls_below (encode_is n0 n1 n2 kd X E x.w hn0 hn1 hn2 hk1 HK0.out (by omega) HEQ.out))
  refine wp_region_kp (by kernel_rfl) (by kernel_rfl) ?_
  repeat (go_big_quiet_step ((rename_i x; first
    | with_reducible exact kp_call x (P1.out x)
    | with_reducible exact kp_call x (P2.out x))))
  with_reducible refine wpQuiet_nil ?_
  rintro _ ⟨y, rfl⟩
  have HB2 := Lib.hid (HB.out.gr0 (.ofBelow y.h))
  clear HB P1 P2 c0 c1 c2 r0 r1 hne
  generalize y.w = w2 at *
  clear y
  obtain ⟨M, hM⟩ : ∃ M, M = E ++ X := ⟨_, rfl⟩
  have hMs : M.size ≤ 100000 := by rw [hM, size_list, app_toList, List.length_append, ← size_list, ← size_list]; omega
  have HDM := Lib.hid (fun W => decode_known M X n0 n1 n2 kd X.data.toList X.data.toList W hn0 hn1 hn2 hk1 HK0.out HXB.out hMs (by rw [hM, app_toList, HEL.out]) rfl)
  have HMM := Lib.hid hM
  clear hM hMs
  go_wp2_with fail
  rw [← HMM.out]
  with_reducible refine (HDM.out _).mono ?_
  rintro r w3 ⟨rfl, g3⟩
  have HB3 := Lib.hid (((HB2.out.gr0 g3).gr0 ((Gr.refl [] w3).alloc (Obj.cells #[.int .u32 n0, .int .u32 n1, .int .u32 n2] 30))).gr0 ((Gr.refl [] _).alloc (Obj.cells #[.int .u8 kd, .string X] 25)))
  have HS3 := Lib.hid ((Holds.new w3 #[.int .u32 n0, .int .u32 n1, .int .u32 n2] 30).alloc (Obj.cells #[.int .u8 kd, .string X] 25))
  have HQ3 := Lib.hid (Holds.new (w3.alloc (Obj.cells #[.int .u32 n0, .int .u32 n1, .int .u32 n2] 30)) #[.int .u8 kd, .string X] 25)
  rw [World.size_alloc] at HQ3
  clear g3 HB2 HDM
  go_wp2_with fail
  generalize (w3.alloc (Obj.cells #[.int .u32 n0, .int .u32 n1, .int .u32 n2] 30)).alloc (Obj.cells #[.int .u8 kd, .string X] 25) = w4 at *
  obtain ⟨bs, hbs⟩ : ∃ b, w3.heap.size = b := ⟨_, rfl⟩
  rw [hbs] at HS3 HQ3 ⊢
  clear hbs
  have c0 := kp_cell (HB3.out.n.cell 0)
  have c1 := kp_cell (HB3.out.n.cell 1)
  have c2 := kp_cell (HB3.out.n.cell 2)
  have r0 := kp_cell (HB3.out.r.cell 0)
  have r1 := kp_cell (HB3.out.r.cell 1)
  have s0 := kp_cell (HS3.out.cell 0)
  have s1 := kp_cell (HS3.out.cell 1)
  have s2 := kp_cell (HS3.out.cell 2)
  have q0 := kp_cell (HQ3.out.cell 0)
  have q1 := kp_cell (HQ3.out.cell 1)
  have hne := kp_ne w4
  have P1 := Lib.hid (fun x : Cls (Kp w4) => calls_below (of_any n0 n1 n2 x.w))
  have P2 := Lib.hid (fun x : Cls (Kp w4) => calls_below (wakes12_any x.w))
  have P3 := Lib.hid (fun x : Cls (Kp w4) => calls_below (size_is_yes kd X z x.w HK0.out (by omega) HZ.out))
  refine wp_region_kp (by kernel_rfl) (by kernel_rfl) ?_
  repeat (go_big_quiet_step ((rename_i x; first
    | with_reducible exact kp_call x (P1.out x)
    | with_reducible exact kp_call x (P2.out x)
    | with_reducible exact kp_call x (P3.out x))))
  with_reducible refine wpQuiet_nil ?_
  rintro _ ⟨y, rfl⟩
  have HB5 := Lib.hid (HB3.out.gr0 (.ofBelow y.h))
  clear HB3 HS3 HQ3 P1 P2 P3 c0 c1 c2 r0 r1 s0 s1 s2 q0 q1 hne
  generalize y.w = w5 at *
  clear y
  obtain ⟨r, hr⟩ : ∃ r : Nat, r = t0 % z := ⟨_, rfl⟩
  have hmod : r < z := by rw [hr]; exact Nat.mod_lt _ (by omega)
  have e1 : (t0 : Int) % (z : Int) = (r : Int) := by rw [hr]; omega
  clear hr
  obtain ⟨p, hp⟩ : ∃ p : Nat, p + 1 + r = z := ⟨z - 1 - r, by omega⟩
  have hpz : p < z := by omega
  have e3 : IntKind.i64.wrap ((z : Int) - 1 - (r : Int)) = (p : Int) := by rw [IntWalk.i64_in _ (by omega)]; omega
  have e4 : (z : Int) - 1 - (r : Int) = (p : Int) := by omega
  have e5 : (p : Int) ≤ (z : Int) := by omega
  clear hp
  have HDP := Lib.hid (fun W => decode_bad (E.extract 0 p) W (by rw [ByteArray.size_extract]; omega) (by rw [extL, HEL.out, dec_short n0 n1 n2 kd X.data.toList hn0 hn1 hn2 hk1 HXB.out p (by rw [← size_list, ← HZ.out]; exact hpz)]; simp))
  have v0 := HB5.out.t.cell 0
  go_wp2_with fail
  with_reducible refine (HDP.out _).mono ?_
  rintro r w6 ⟨⟨c, hc, rfl⟩, g6⟩
  have HB7 := Lib.hid (((HB5.out.gr0 g6).gr0 ((Gr.refl [] w6).alloc (Obj.cells #[.int .u32 0, .int .u32 0, .int .u32 0] 30))).gr0 ((Gr.refl [] _).alloc (Obj.cells #[.int .u8 0, .string ⟨#[]⟩] 25)))
  have tc : ((c : Int) == 0) = false := by rcases hc.out with h | h <;> subst h <;> rfl
  clear g6 HB5 HDP v0 e1 e3 e4 e5
  have v0 := HB7.out.t.cell 0
  have v1 := HB7.out.t.cell 1
  by_cases h1 : t1 = 0
  · have t1e : ((t1 : Int) == 0) = true := by simp; omega
    have H1 := Lib.hid h1
    clear h1
    go_wp2_with fail
    go_ret
    exact ⟨rfl, HB7.out.g.below0⟩
  · have t1e : ((t1 : Int) == 0) = false := by simp; omega
    have H1 := Lib.hid h1
    clear h1
    obtain ⟨W1, C, hrun, hcells, hfro, hbel, hsz⟩ := bytes_of ((w6.alloc (Obj.cells #[.int .u32 0, .int .u32 0, .int .u32 0] 30)).alloc (Obj.cells #[.int .u8 0, .string ⟨#[]⟩] 25)) E
    rw [hEs] at hrun
    obtain ⟨gB, hgB⟩ : ∃ g, g = ((w6.alloc (Obj.cells #[.int .u32 0, .int .u32 0, .int .u32 0] 30)).alloc (Obj.cells #[.int .u8 0, .string ⟨#[]⟩] 25)).heap.size := ⟨_, rfl⟩
    have HGB := Lib.hid hgB
    rw [← hgB] at hrun hcells hfro
    clear hgB
    have HB8 := Lib.hid (HB7.out.gr0 (.ofBelow hbel))
    obtain ⟨bb, hbb⟩ : ∃ b : UInt8, b.toNat = t1 := ⟨UInt8.ofNat t1, by simp; omega⟩
    have hb0 : bb ≠ 0 := by
      intro h0
      rw [h0] at hbb
      exact H1.out hbb.symm
    obtain ⟨r2, hr2⟩ : ∃ r : Nat, r = t0 % (z - 2) := ⟨_, rfl⟩
    have hmod2 : r2 < z - 2 := by rw [hr2]; exact Nat.mod_lt _ (by omega)
    have e1 : (t0 : Int) % ((z : Int) - 2) = (r2 : Int) := by rw [hr2, show (z : Int) - 2 = ((z - 2 : Nat) : Int) by omega]; omega
    clear hr2
    obtain ⟨p2, hp2⟩ : ∃ p : Nat, 2 + r2 = p := ⟨_, rfl⟩
    have hp2z : p2 < E.size := by omega
    have e3 : IntKind.i64.wrap ((z : Int) - 2) = (z : Int) - 2 := IntWalk.i64_in _ (by omega)
    have e7 : Int.tmod (t0 : Int) ((z : Int) - 2) = (r2 : Int) := by rw [Int.tmod_eq_emod_of_nonneg (by omega), e1]
    have e8 : ¬ ((z : Int) - 2 = 0) := by omega
    have e9 : IntKind.i64.wrap (r2 : Int) = (r2 : Int) := IntWalk.i64_in _ (by omega)
    have e4 : IntKind.i64.wrap (2 + (r2 : Int)) = (p2 : Int) := by rw [IntWalk.i64_in _ (by omega)]; omega
    have e5 : (2 : Int) + (r2 : Int) = (p2 : Int) := by omega
    have e6 : (p2 : Int) < (z : Int) := by omega
    have e10 : p2 < z := by omega
    have e13 : IntKind.i64.wrap (p2 : Int) = (p2 : Int) := IntWalk.i64_in _ (by omega)
    have e12 : IntKind.i64.wrap (t0 : Int) = (t0 : Int) := IntWalk.i64_in _ (by omega)
    have e11 : (0 : Int) ≤ (p2 : Int) := by omega
    have hc2 := hcells p2 hp2z
    have hf2 := hfro p2 hp2z
    have hx : bits .xor .u8 (E[p2].toNat : Int) (t1 : Int) = ((E[p2] ^^^ bb).toNat : Int) := by
      rw [← hbb, u8_xor_nat _ _ (E[p2].toNat_lt) (bb.toNat_lt)]; simp
    have hxne : E[p2] ^^^ bb ≠ E[p2] := by
      intro h0
      apply hb0
      have : E[p2] ^^^ (E[p2] ^^^ bb) = 0 := by rw [h0]; simp
      rwa [← UInt8.xor_assoc, UInt8.xor_self, UInt8.zero_xor] at this
    generalize hxx : E[p2] ^^^ bb = xx at *
    have HXX := Lib.hid hxx
    have hback := back_conv W1 gB C E p2 xx hp2z hcells
    rw [hEs] at hback
    have HBK := Lib.hid hback
    have HCE := Lib.hid hcells
    have u0 := HB8.out.t.cell 0
    have u1 := HB8.out.t.cell 1
    clear hxx hcells hfro hback hp2 hbb hb0
    go_wp2_with fail
    go_still_tail 15, (by kernel_rfl)
    change wpList _ _ _ _ _ W1.drew
    have hlo : w.heap.size ≤ gB := by rw [HGB.out]; exact HB7.out.g.size
    have HG9 := Lib.hid ((HB8.out.g.setCell (p := ⟨gB, p2, none⟩) (.inr hlo) (.int .u8 (xx.toNat : Int))).drew)
    obtain ⟨T, hT⟩ : ∃ T : ByteArray, T = ⟨(E.data.toList.set p2 xx).toArray⟩ := ⟨_, rfl⟩
    have hbk : (convert 47 9 (.slice (some ⟨gB, 0, none⟩) z C)).run Tryd.prog (W1.setCell ⟨gB, p2, none⟩ (.int .u8 (xx.toNat : Int))).drew = .ok (.string T) (W1.setCell ⟨gB, p2, none⟩ (.int .u8 (xx.toNat : Int))).drew := by
      rw [hT]; exact HBK.out 1
    have hTl : T.data.toList = E.data.toList.set p2 xx := by rw [hT]
    have hEl2 : E.data.toList.length = z := by rw [← size_list]; exact hEs
    have hbt : ∀ i, bt T.data.toList i = if i = p2 then xx else bt E.data.toList i := fun i => by rw [hTl, bt_set _ _ _ (by rw [hEl2]; exact e10)]
    have HTB := Lib.hid (decode_bad T (W1.setCell ⟨gB, p2, none⟩ (.int .u8 (xx.toNat : Int))).drew (by rw [size_list, hTl, List.length_set, hEl2]; omega) (by
      refine dec_turned n0 n1 n2 kd X.data.toList hn0 hn1 hn2 hk1 HXB.out T.data.toList p2 (by rw [hTl, List.length_set, hEl2, ← size_list]; exact HZ.out) (by omega) (by rw [← size_list, ← HZ.out]; exact e10) ?_ ?_
      · rw [hbt, if_pos rfl, ← HEL.out, bt_get _ _ (by rw [hEl2]; exact e10)]
        exact hxne
      · intro i hi
        rw [hbt, if_neg hi, ← HEL.out]))
    clear hT hTl hEl2 hbt hlo
    go_wp2_with fail
    with_reducible refine HTB.out.mono ?_
    rintro r w9 ⟨⟨d, hd, rfl⟩, g9⟩
    have HGA := Lib.hid (((HG9.out.next0 g9).alloc (Obj.cells #[.int .u32 0, .int .u32 0, .int .u32 0] 30)).alloc (Obj.cells #[.int .u8 0, .string ⟨#[]⟩] 25))
    have td : ((d : Int) != 0) = true := by rcases hd.out with h | h <;> subst h <;> rfl
    clear g9
    go_wp2_with fail
    go_ret
    exact ⟨rfl, HGA.out.below0⟩
theorem walk_RecBack (a0 : List Int) (a1 : ByteArray) (a2 : List Int) (l0 : a0.length = 3) (w0 : ∀ x ∈ a0, (Lit.int .u32 x).wf = true) (w1 : a1.size ≤ maxLen) (_x1 : a1.size ≤ reachBytes) (l2 : a2.length = 3) (w2 : ∀ x ∈ a2, (Lit.int .u8 x).wf = true) (w : World) :
    Calls Tryd.prog 5 #[.agg (a0.map (Value.int .u32)).toArray, .string a1, .agg (a2.map (Value.int .u8)).toArray] w fun e w' => e = .returned (.bool true) ∧ Below w.heap.size w w' := by
  match a0, l0, a2, l2 with
  | [x, y, z], _, [p, q, r], _ =>
    have hx : ∀ v ∈ [x, y, z], 0 ≤ v ∧ v < 4294967296 := fun v hv => by have := bounds_u32 (w0 v hv); omega
    have hp : ∀ v ∈ [p, q, r], 0 ≤ v ∧ v < 256 := fun v hv => by have := bounds_u8 (w2 v hv); omega
    simp only [List.mem_cons, List.mem_nil_iff, or_false, forall_eq_or_imp, forall_eq] at hx hp
    obtain ⟨x, rfl⟩ := Int.eq_ofNat_of_zero_le hx.1.1
    obtain ⟨y, rfl⟩ := Int.eq_ofNat_of_zero_le hx.2.1.1
    obtain ⟨z, rfl⟩ := Int.eq_ofNat_of_zero_le hx.2.2.1
    obtain ⟨p, rfl⟩ := Int.eq_ofNat_of_zero_le hp.1.1
    obtain ⟨q, rfl⟩ := Int.eq_ofNat_of_zero_le hp.2.1.1
    obtain ⟨r, rfl⟩ := Int.eq_ofNat_of_zero_le hp.2.2.1
    exact recBack_any x y z a1 p q r w (by omega) (by omega) (by omega) w1 (by omega) (by omega) (by omega)

end Go.Proofs.YtpkhfdcokcchdabDoor
