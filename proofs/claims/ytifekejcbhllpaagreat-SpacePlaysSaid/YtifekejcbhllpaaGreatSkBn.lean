/-
  SpaceParts' walk.
-/
import Derived.Test.YtifekejcbhllpaaGreatSkBm

namespace Go.Proofs.YtifekejcbhllpaaGreat
open Go.RowKit
set_option linter.unusedVariables false

theorem minIsL (P : Program) (L m k : Nat) (kI : Int) (hk : kI = k) (h : m = min L k) (ts : Array TypeId) (t : TypeId) (w : World) : (Builtin.min_ ts t #[.int .i64 (L : Int), .int .i64 kI]).run P w = .ok (.int .i64 (m : Int)) w := by
  subst hk
  rw [run_min_int2]
  have : (if ((k : Nat) : Int) < (L : Int) then ((k : Nat) : Int) else (L : Int)) = (m : Int) := by split <;> omega
  rw [this]
/-- Two devices' bytes. -/
structure Sp2 (w : World) (C1 C2 : CfgZ) (X1 : HtA) (A1 : FlA) (a1 : DevA) (s1 : Nat) (X2 : HtA) (A2 : FlA) (a2 : DevA) (s2 : Nat) (B1 B2 : ByteArray) (N1 N2 : Nat) (wr : World) : Prop where
  gr : Gr [] w wr
  h1 : HSp C1 X1 A1 a1 true true 3 s1 B1 N1 wr
  h2 : HSp C2 X2 A2 a2 true true 3 s2 B2 N2 wr
  d1 : ∀ x ∈ s1 :: (X1.all ++ (A1.all (cR C1) ++ a1.all)), w.heap.size ≤ x
  d2 : ∀ x ∈ s2 :: (X2.all ++ (A2.all (cR C2) ++ a2.all)), w.heap.size ≤ x ∧ x ∉ s1 :: (X1.all ++ (A1.all (cR C1) ++ a1.all))
section
variable {w wr w' : World} {C1 C2 : CfgZ} {X1 : HtA} {A1 : FlA} {a1 : DevA} {s1 : Nat} {X2 : HtA} {A2 : FlA} {a2 : DevA} {s2 : Nat} {B1 B2 B3 : ByteArray} {N1 N2 N3 : Nat}
theorem Sp2.next0 (h : Sp2 w C1 C2 X1 A1 a1 s1 X2 A2 a2 s2 B1 B2 N1 N2 wr) (g : Gr [] wr w') : Sp2 w C1 C2 X1 A1 a1 s1 X2 A2 a2 s2 B1 B2 N1 N2 w' := ⟨h.gr.trans g, h.h1.gr0 g, h.h2.gr0 g, h.d1, h.d2⟩
theorem Sp2.put1 (h : Sp2 w C1 C2 X1 A1 a1 s1 X2 A2 a2 s2 B1 B2 N1 N2 wr) (g : Gr (X1.all ++ (A1.all (cR C1) ++ a1.all)) wr w') (q : HSp C1 X1 A1 a1 true true 3 s1 B3 N3 w') : Sp2 w C1 C2 X1 A1 a1 s1 X2 A2 a2 s2 B3 B2 N3 N2 w' :=
  ⟨h.gr.nextN g fun x hx => .inr (h.d1 x (List.mem_cons_of_mem _ hx)), q, h.h2.gr g (fun x hx e => (h.d2 x (List.mem_cons_of_mem _ hx)).2 (List.mem_cons_of_mem _ e)) (fun e => (h.d2 _ (by simp)).2 (List.mem_cons_of_mem _ e)), h.d1, h.d2⟩
theorem Sp2.put2 (h : Sp2 w C1 C2 X1 A1 a1 s1 X2 A2 a2 s2 B1 B2 N1 N2 wr) (g : Gr (X2.all ++ (A2.all (cR C2) ++ a2.all)) wr w') (q : HSp C2 X2 A2 a2 true true 3 s2 B3 N3 w') : Sp2 w C1 C2 X1 A1 a1 s1 X2 A2 a2 s2 B1 B3 N1 N3 w' :=
  ⟨h.gr.nextN g fun x hx => .inr (h.d2 x (List.mem_cons_of_mem _ hx)).1, h.h1.gr g (fun x hx e => (h.d2 x (List.mem_cons_of_mem _ e)).2 (List.mem_cons_of_mem _ hx)) (fun e => (h.d2 _ (List.mem_cons_of_mem _ e)).2 (by simp)), q, h.d1, h.d2⟩
end
set_option maxRecDepth 100000 in
set_option maxHeartbeats 40000000 in
theorem sparts_law (b : ByteArray) (p q : Nat) {w : World} (hp : p < 65536) (hq : q < 65536) (hb : b.size ≤ 4611686018427387904) :
    Calls Tryz.prog 6 #[.string b, .int .u16 (p : Int), .int .u16 (q : Int)] w fun e w' => e = .returned (.bool true) ∧ Gr [] w w' := by
  have HF1 := Lib.hid (fresh11 11 (by omega) w)
  have HF2 := Lib.hid (fun W => fresh11 12 (by omega) W)
  obtain ⟨m4, hm4⟩ : ∃ m, m = min b.size 400 := ⟨_, rfl⟩
  have hmn := minIsL Tryz.prog b.size m4 400 400 rfl hm4
  have hm4a : m4 ≤ b.size := by omega
  have HM4 := Lib.hid (show m4 ≤ 400 by omega)
  have HPQ := Lib.hid (And.intro hp hq)
  have hbl : (b.size : Int) ≤ 4611686018427387904 := by omega
  obtain ⟨C1, hC1⟩ : ∃ C, C = spC 11 := ⟨_, rfl⟩
  obtain ⟨C2, hC2⟩ : ∃ C, C = spC 12 := ⟨_, rfl⟩
  rw [← hC1] at HF1
  rw [← hC2] at HF2
  clear hm4 hp hq hC1 hC2
  go_enter Tryz.func6, Tryz.ntmps6
  go_wp2_with fail
  refine HF1.out.mono ?_
  rintro e w2 ⟨a1, X1, A1, s1, rfl, h1, n1, g1⟩
  have H1 := Lib.hid (And.intro h1 (And.intro n1 g1))
  clear h1 n1 g1 HF1
  go_wp2_with fail
  refine (HF2.out _).mono ?_
  rintro e w3 ⟨a2, X2, A2, s2, rfl, h2, n2, g2⟩
  have H2 := Lib.hid (show Sp2 w C1 C2 X1 A1 a1 s1 X2 A2 a2 s2 (zBy 1536) (zBy 1536) 300000 300000 w3 from ⟨H1.out.2.2.trans g2, H1.out.1.gr0 g2, h2, H1.out.2.1, fun x hx => by
    have h3 := n2 x hx
    have h4 := H1.out.2.2.size
    exact ⟨by omega, fun e => by have := H1.out.1.lt x e; omega⟩⟩)
  clear h2 n2 g2 H1 HF2
  have im : (m4 : Int) ≤ (b.size : Int) := by omega
  have im0 : (0 : Int) ≤ (m4 : Int) := by omega
  go_upto_region 4 with fail
  obtain ⟨T, hT⟩ : ∃ T, T = b.extract 0 m4 := ⟨_, rfl⟩
  have hTs : T.size = m4 := by rw [hT]; exact (ext_size (by omega) (by omega)).trans (by omega)
  try rw [← hT]
  clear hmn hm4a hbl im im0 hT hb
  obtain ⟨F, hF⟩ : ∃ F, F = p % 1000 := ⟨_, rfl⟩
  obtain ⟨m5, hm5⟩ : ∃ m, m = m4 + 1 := ⟨_, rfl⟩
  obtain ⟨K, hK⟩ : ∃ K, K = q % m5 := ⟨_, rfl⟩
  have hKlt : K < m5 := by rw [hK]; exact Nat.mod_lt _ (by omega)
  have HFK := Lib.hid (show F < 1000 ∧ K ≤ m4 from ⟨by omega, by omega⟩)
  have y1 : (p : Int).tmod 1000 = (F : Int) := by rw [hF]; exact (Int.ofNat_tmod p 1000).symm
  have y2 : IntKind.u16.wrap (F : Int) = (F : Int) := by rw [IntKind.wrap_u16]; have := HFK.out; omega
  have y3 : IntKind.i64.wrap (F : Int) = (F : Int) := IntWalk.i64_in _ (by have := HFK.out; omega)
  have y4 : IntKind.i64.wrap ((m4 : Int) + 1) = (m5 : Int) := by rw [show (m4 : Int) + 1 = (m5 : Int) by omega]; exact IntWalk.i64_in _ (by have := HM4.out; omega)
  have y5 : (q : Int).tmod (m5 : Int) = (K : Int) := by rw [hK]; exact (Int.ofNat_tmod q m5).symm
  have y6 : IntKind.i64.wrap (K : Int) = (K : Int) := IntWalk.i64_in _ (by have := HFK.out; have := HM4.out; omega)
  have y7 : IntKind.i64.wrap (q : Int) = (q : Int) := IntWalk.i64_in _ (by have := HPQ.out; omega)
  have n1 : ((m5 : Int) == 0) = false := by simp; omega
  have n2 : ¬ (m5 : Int) = 0 := by omega
  have hne := kp_ne w3
  clear hF hK hKlt hm5
  refine wp_region_kp (by kernel_rfl) (by kernel_rfl) ?_
  repeat (go_big_quiet_step (fail))
  with_reducible refine wpQuiet_nil ?_
  rintro _ ⟨y, rfl⟩
  have H3 := Lib.hid (H2.out.next0 (Gr.ofBelow (cs := []) y.h))
  clear y1 y2 y3 y4 y5 y6 y7 n1 n2 hne H2
  generalize y.w = w4 at *
  clear y
  go_wp2_with fail
  refine (wakes11 _).mono ?_
  rintro e w5 ⟨rfl, g5⟩
  have H5 := Lib.hid (H3.out.next0 g5)
  clear g5 H3
  have HW1 := Lib.hid (H5.out.h1.write F T (by rw [hTs, zBy_size]; have := HFK.out; have := HM4.out; omega) (by rw [hTs]; have := HM4.out; omega))
  go_wp2_with fail
  refine HW1.out.mono ?_
  rintro e w6 ⟨rfl, h6, g6⟩
  have H6 := Lib.hid (H5.out.put1 g6 h6)
  clear h6 g6 H5 HW1
  obtain ⟨FK, hFK⟩ : ∃ x, x = F + K := ⟨_, rfl⟩
  have u1 : IntKind.i64.wrap ((F : Int) + (K : Int)) = (FK : Int) := by rw [show (F : Int) + (K : Int) = (FK : Int) by omega]; exact IntWalk.i64_in _ (by have := HFK.out; have := HM4.out; omega)
  have lk : (K : Int) ≤ (m4 : Int) := by have := HFK.out; omega
  have lk0 : (0 : Int) ≤ (K : Int) := by omega
  have lk2 : K ≤ m4 := HFK.out.2
  have s1' : (T.extract K m4).size = m4 - K := ext_size (by omega) (by omega)
  have s0' : (T.extract 0 K).size = K := (ext_size (by omega) (by omega)).trans (by omega)
  have HW2 := Lib.hid (H6.out.h2.write FK (T.extract K m4) (by rw [s1', zBy_size]; have := HFK.out; have := HM4.out; omega) (by rw [s1']; have := HM4.out; omega))
  have HFKe := Lib.hid hFK
  clear hFK
  go_wp2_with fail
  refine HW2.out.mono ?_
  rintro e w7 ⟨rfl, h7, g7⟩
  have H7 := Lib.hid (H6.out.put2 g7 h7)
  clear h7 g7 H6 HW2
  have HW3 := Lib.hid (H7.out.h2.write F (T.extract 0 K) (by rw [s0', splB_size (by rw [s1', zBy_size]; have := HFK.out; have := HM4.out; have := HFKe.out; omega), zBy_size]; have := HFK.out; have := HM4.out; omega) (by rw [s1', s0']; have := HM4.out; omega))
  go_wp2_with fail
  refine HW3.out.mono ?_
  rintro e w8 ⟨rfl, h8, g8⟩
  have H8 := Lib.hid (H7.out.put2 g8 h8)
  clear h8 g8 H7 HW3
  obtain ⟨U, hU⟩ : ∃ U, U = splB (zBy 1536) F T := ⟨_, rfl⟩
  have e2 : splB (splB (zBy 1536) FK (T.extract K m4)) F (T.extract 0 K) = U := by
    rw [hU, HFKe.out]
    have h := splB_two (B := zBy 1536) (b := T) (k := F) (j := K) (by rw [hTs, zBy_size]; have := HFK.out; have := HM4.out; omega) (by omega)
    rw [hTs] at h
    exact h
  have hUs : U.size = 1536 := by rw [hU, splB_size (by rw [hTs, zBy_size]; have := HFK.out; have := HM4.out; omega), zBy_size]
  have hMid : U.extract F (F + m4) = T := by
    have h := splB_mid (B := zBy 1536) (b := T) (k := F) (by rw [hTs, zBy_size]; have := HFK.out; have := HM4.out; omega)
    rw [hTs, ← hU] at h
    exact h
  rw [e2, ← hU] at H8
  have HU := Lib.hid (And.intro hUs hMid)
  clear e2 hU hMid s0' s1' u1 lk lk0
  have HSz1 := Lib.hid (spsize_any H8.out.h1)
  have HSz2 := Lib.hid (fun W (g : Gr [] w8 W) => spsize_any (H8.out.next0 g).h2)
  have HSz3 := Lib.hid (fun W (g : Gr [] w8 W) => spsize_any (H8.out.next0 g).h1)
  have HR1 := Lib.hid (H8.out.h1.all)
  have HR2 := Lib.hid (fun W (g : Gr [] w8 W) => (H8.out.next0 g).h2.all)
  rw [hUs] at HSz1 HSz2 HSz3 HR1 HR2
  have HR3 := Lib.hid (fun W (g : Gr [] w8 W) => spread_in (H8.out.next0 g).h1 0 FK (by rw [hUs]; have := HFK.out; have := HM4.out; have := HFKe.out; omega))
  have HR4 := Lib.hid (fun W (g : Gr [] w8 W) => spread_in (H8.out.next0 g).h1 FK (1536 - FK) (by rw [hUs]; have := HFK.out; have := HM4.out; have := HFKe.out; omega))
  obtain ⟨V1, hV1⟩ : ∃ t, t = U.extract 0 (0 + FK) := ⟨_, rfl⟩
  obtain ⟨V2, hV2⟩ : ∃ t, t = U.extract FK (FK + (1536 - FK)) := ⟨_, rfl⟩
  rw [← hV1] at HR3
  rw [← hV2] at HR4
  have hV : V1 ++ V2 = U := by
    have n0 := HFKe.out
    have n1 := HFK.out
    have n2 := HM4.out
    rw [hV1, hV2, Nat.zero_add, show FK + (1536 - FK) = U.size by omega, ext_join 0 FK U.size (by omega) (by omega) (by omega), ext_all]
  have HV := Lib.hid hV
  clear hV1 hV2 hV
  go_wp2_with fail
  refine HSz1.out.mono ?_
  rintro e w9 ⟨rfl, rfl⟩
  go_wp2_with fail
  refine HR1.out.mono ?_
  rintro e w10 ⟨rfl, g10⟩
  have HG10 := Lib.hid g10
  clear g10 HSz1 HR1
  go_wp2_with fail
  refine (HSz2.out _ HG10.out).mono ?_
  rintro e w11 ⟨rfl, rfl⟩
  go_wp2_with fail
  refine (HR2.out _ HG10.out).mono ?_
  rintro e w12 ⟨rfl, g12⟩
  have HG12 := Lib.hid (HG10.out.trans g12)
  clear g12 HSz2 HR2 HG10
  have u1 : IntKind.i64.wrap ((F : Int) + (K : Int)) = (FK : Int) := by rw [show (F : Int) + (K : Int) = (FK : Int) by have := HFKe.out; omega]; exact IntWalk.i64_in _ (by have := HFK.out; have := HM4.out; have := HFKe.out; omega)
  obtain ⟨R1, hR1⟩ : ∃ r, r = 1536 - F := ⟨_, rfl⟩
  have u2 : IntKind.i64.wrap ((1536 : Int) - (F : Int)) = (R1 : Int) := by rw [show (1536 : Int) - (F : Int) = (R1 : Int) by have := HFK.out; omega]; exact IntWalk.i64_in _ (by omega)
  have u3 : IntKind.i64.wrap ((R1 : Int) - (K : Int)) = ((1536 - FK : Nat) : Int) := by rw [show (R1 : Int) - (K : Int) = ((1536 - FK : Nat) : Int) by have := HFK.out; have := HM4.out; have := HFKe.out; omega]; exact IntWalk.i64_in _ (by omega)
  clear hR1
  go_wp2_with fail
  refine (HR3.out _ HG12.out).mono ?_
  rintro e w13 ⟨rfl, g13⟩
  have HG13 := Lib.hid (HG12.out.trans g13)
  clear g13 HR3 HG12
  go_wp2_with fail
  refine (HSz3.out _ HG13.out).mono ?_
  rintro e w14 ⟨rfl, rfl⟩
  go_wp2_with fail
  refine (HR4.out _ HG13.out).mono ?_
  rintro e w15 ⟨rfl, g15⟩
  have HG15 := Lib.hid (H8.out.gr.trans (HG13.out.trans g15))
  clear g15 HR4 HG13 HSz3 u1 u2 u3
  have hv := HV.out
  have hm := HU.out.2
  obtain ⟨E, hE⟩ : ∃ E, E = F + m4 := ⟨_, rfl⟩
  have u4 : IntKind.i64.wrap ((F : Int) + (m4 : Int)) = (E : Int) := by rw [show (F : Int) + (m4 : Int) = (E : Int) by omega]; exact IntWalk.i64_in _ (by have := HFK.out; have := HM4.out; omega)
  rw [← hE] at hm
  have lE : (E : Int) ≤ 1536 := by have := HFK.out; have := HM4.out; omega
  have lE2 : E ≤ 1536 := by have := HFK.out; have := HM4.out; omega
  have lF : (F : Int) ≤ (E : Int) := by omega
  have lF2 : F ≤ E := by omega
  have lF0 : (0 : Int) ≤ (F : Int) := by omega
  clear hE
  have hvs : ¬ 9223372036854775807 < V1.size + V2.size := by
    have e := congrArg ByteArray.size hv
    rw [ByteArray.size_append, hUs] at e
    omega
  go_wp2_with fail
  go_ret
  exact ⟨rfl, HG15.out⟩
theorem walk_SpaceParts (b : ByteArray) (x y : Int) (hb : b.size ≤ maxLen) (hb2 : b.size ≤ reachBytes) (w1 : (Lit.int .u16 x).wf = true) (w2 : (Lit.int .u16 y).wf = true) (w : World) :
    Calls Tryz.prog 6 #[.string b, .int .u16 x, .int .u16 y] w fun e w' => e = .returned (.bool true) ∧ Below w.heap.size w w' := by
  obtain ⟨p, rfl, hp⟩ := natU16 w1
  obtain ⟨q, rfl, hq⟩ := natU16 w2
  unfold reachBytes at hb2
  exact (sparts_law b p q hp hq (by omega)).mono fun _ _ q => ⟨q.1, q.2.below0⟩
end Go.Proofs.YtifekejcbhllpaaGreat
