/-
  The walk of AllocAll.
-/
import Derived.Test.YtpkhfdcokcchdaaAlK
import Derived.Test.YtpkhfdcokcchdaaFrameS
namespace Go.Proofs.Ytpkhfdcokcchdaa
open Go.RowKit

theorem minIs (P : Program) (L m k : Nat) (kI : Int) (hk : kI = k) (h : m = min L k) (ts : Array TypeId) (t : TypeId) (w : World) : (Builtin.min_ ts t #[.int .i64 (L : Int), .int .i64 kI]).run P w = .ok (.int .i64 (m : Int)) w := by
  subst hk
  rw [run_min_int2]
  have : (if (k : Int) < (L : Int) then (k : Int) else (L : Int)) = (m : Int) := by split <;> omega
  rw [this]
/-- A set in a variable. -/
structure SBox (w W : World) (Bs N : Nat) (l : List (Nat × Nat)) (ao : Option Addr) (cap : Nat) : Prop where
  box : Holds W Bs #[.int .i64 N, .slice ao l.length cap] 25
  set : SetIs W N l ao cap
  gr : Gr [] w W
  lo : w.heap.size ≤ Bs
  far : ∀ k o, ao = some ⟨k, o, none⟩ → k ≠ Bs
theorem SBox.gr0 {w W W' : World} {Bs N : Nat} {l : List (Nat × Nat)} {ao : Option Addr} {cap : Nat} (h : SBox w W Bs N l ao cap) (g : Gr [] W W') : SBox w W' Bs N l ao cap := ⟨h.box.gr0 g, h.set.gr0 g, h.gr.next0 g, h.lo, h.far⟩
theorem SBox.c0 {w W : World} {Bs N : Nat} {l : List (Nat × Nat)} {ao : Option Addr} {cap : Nat} (h : SBox w W Bs N l ao cap) : W.cell? ⟨Bs, 0, none⟩ = some (.int .i64 N) := h.box.cell 0
theorem SBox.c1 {w W : World} {Bs N : Nat} {l : List (Nat × Nat)} {ao : Option Addr} {cap : Nat} (h : SBox w W Bs N l ao cap) : W.cell? ⟨Bs, 1, none⟩ = some (.slice ao l.length cap) := h.box.cell 1
/-- Another set stands in the variable. -/
theorem SBox.put {w W : World} {Bs N : Nat} {l l' : List (Nat × Nat)} {ao ao' : Option Addr} {cap cap' : Nat} (h : SBox w W Bs N l ao cap) (hs : SetIs W N l' ao' cap') (hf : ∀ k o, ao' = some ⟨k, o, none⟩ → k ≠ Bs) :
    SBox w ((W.setCell ⟨Bs, 0, none⟩ (.int .i64 N)).setCell ⟨Bs, 1, none⟩ (.slice ao' l'.length cap')) Bs N l' ao' cap' := by
  have g : Gr [Bs] W ((W.setCell ⟨Bs, 0, none⟩ (.int .i64 N)).setCell ⟨Bs, 1, none⟩ (.slice ao' l'.length cap')) := ((Gr.refl _ _).setCell (p := ⟨Bs, 0, none⟩) (.inl (by simp)) _).setCell (p := ⟨Bs, 1, none⟩) (.inl (by simp)) _
  refine ⟨(h.box.set 0 _).set 1 _, ⟨hs.runs, hs.hi, hs.rd.gr g (fun k o e => by simpa using hf k o e), hs.cap1, hs.cap2, hs.none⟩, h.gr.nextN g (fun x hx => by simp at hx; subst hx; exact .inr h.lo), h.lo, hf⟩

set_option maxHeartbeats 8000000 in
set_option maxRecDepth 20000 in
theorem all_any (ao0 : Option Addr) (n cap0 : Nat) (q : Nat → Nat) (w : World) (hq : ∀ k, k < n → ∃ b o, ao0 = some ⟨b, o, none⟩ ∧ b < w.heap.size ∧ w.cell? ⟨b, o + k, none⟩ = some (.int .u8 (q k : Int)) ∧ q k < 256) (hn : ao0 = none → cap0 = 0) (hcap : n ≤ cap0) (hmax : cap0 ≤ maxLen) :
    Calls Try.prog 6 #[.slice ao0 n cap0] w fun e w' => e = .returned (.bool true) ∧ Below w.heap.size w w' := by
  obtain ⟨M, hM⟩ : ∃ M, M = min n 59 := ⟨_, rfl⟩
  have hmn := minIs Try.prog n M 59 59 rfl hM
  have hM1 : M ≤ n := by omega
  have hM2 : M ≤ 59 := by omega
  have HQ := Lib.hid hq
  unfold maxLen at hmax
  clear hq hM
  have heq := aeqIn
  have hgr := fun (W : World) (op : BinOp) (x y : Operand) (xs ys : Array Value) => run_eqGuard_agg (P := Try.prog) (w := W) op 35 x y xs ys aguard
  cases ao0 with
  | none =>
    obtain rfl := hn rfl
    obtain rfl : n = 0 := by omega
    obtain rfl : M = 0 := by omega
    go_enter Try.func6, Try.ntmps6
    go_wp2_with fail
    refine (anew_runs 60 _ (by decide) (by decide)).mono ?_
    rintro e w1 ⟨ao, cap, rfl, s1, g1⟩
    have S1 : SBox w (w1.alloc (Obj.cells #[.int .i64 60, .slice ao 1 cap] 25)) w1.heap.size 60 [(0, 60)] ao cap := by
      have ga := (Gr.refl [] w1).alloc (Obj.cells #[.int .i64 60, .slice ao 1 cap] 25)
      refine ⟨Holds.new w1 _ _, s1.gr0 ga, g1.next0 ga, g1.size, fun k o e => ?_⟩
      obtain ⟨b, o', h1, h2, _⟩ := s1.at (i := 0) rfl
      rw [h1] at e
      injection e with e
      injection e with e1 e2
      omega
    clear s1 g1
    have HS1 := Lib.hid S1
    clear S1
    go_wp2_with fail
    refine (wakes14_any _).mono ?_
    rintro e w2 ⟨rfl, g2⟩
    have S2 := HS1.out.gr0 g2
    clear g2 HS1
    obtain ⟨Bs, hBs⟩ : ∃ Bs, w1.heap.size = Bs := ⟨_, rfl⟩
    rw [hBs] at S2 ⊢
    clear hBs
    go_wp2_with fail
    go_loopw [34] (fun i wr => ∃ (k : Nat) (l : List (Nat × Nat)) (ao : Option Addr) (cap : Nat), k ≤ 0 ∧ i = .int .i64 k ∧ SBox w wr Bs 60 l ao cap) (fun i _ => 0 - (intOf i).toNat)
    case atStart => exact ⟨0, _, _, _, by omega, rfl, S2⟩
    case round =>
      clear S2
      obtain ⟨k, l, ao, cap, hk, rfl, S⟩ := hrel
      have HS := Lib.hid S
      have c0 := S.c0
      have c1 := S.c1
      clear S
      by_cases hkM : k < 0
      · omega
      · obtain rfl : k = 0 := by omega
        have hlen := HS.out.set.len
        have hsm := HS.out.set.sum l.length
        rw [List.take_length] at hsm
        have HF := Lib.hid (afree_any 60 l ao cap wr HS.out.set)
        obtain ⟨s, hs⟩ : ∃ s, s = sumL l := ⟨_, rfl⟩
        rw [← hs] at HF hsm
        have HSM := Lib.hid hs
        clear hs
        obtain ⟨m, hm⟩ : ∃ m, m = l.length := ⟨_, rfl⟩
        rw [← hm] at HF c1 hlen
        have HM := Lib.hid hm
        clear hm
        go_wp2_with fail
        refine HF.out.mono ?_
        rintro e w3 ⟨rfl, g3⟩
        have S3 := HS.out.gr0 g3
        clear g3 HS HF c0 c1
        have c0 := S3.c0
        have c1 := S3.c1
        rw [← HM.out] at c1
        have HS := Lib.hid S3
        have HL := Lib.hid (alist_any 60 l ao cap w3 S3.set)
        rw [← HM.out] at HL
        clear S3
        go_wp2_with fail
        refine HL.out.mono ?_
        rintro e w4 ⟨ao2, cap2, rfl, r4, g4⟩
        have S4 := HS.out.gr0 g4
        clear HS HL c0 c1 g4
        have c0 := S4.c0
        have c1 := S4.c1
        rw [← HM.out] at c1
        have HS := Lib.hid S4
        have HT := Lib.hid (atake_no 60 l ao cap ((s : Int) + 1) w4 S4.set (by rw [← HSM.out]; omega))
        rw [if_neg (by omega), ← HM.out] at HT
        have HR := Lib.hid r4
        clear S4 r4
        go_wp2_with fail
        refine HT.out.mono ?_
        rintro e w5 ⟨rfl, g5⟩
        have ga := (Gr.refl [] w5).alloc (Obj.cells #[.int .i64 0, .slice none 0 0] 25)
        have S5 := (HS.out.gr0 g5).gr0 ga
        have R5 := (HR.out.gr0 g5).gr0 ga
        clear HS HT HR c0 c1 g5 ga
        have c0 := S5.c0
        have c1 := S5.c1
        rw [← HM.out] at c1
        have HS := Lib.hid (And.intro S5 R5)
        clear S5 R5
        go_wp2_with fail
        by_cases h0 : s = 0
        · subst h0
          have HT := Lib.hid (atake_no 60 l ao cap ((0 : Nat) : Int) _ HS.out.1.set (.inl (by decide)))
          rw [if_pos (by decide), ← HM.out] at HT
          refine HT.out.mono ?_
          rintro e w6 ⟨rfl, g6⟩
          have HE := Lib.hid ((HS.out.1.gr.next0 g6).alloc (Obj.cells #[.int .i64 0, .slice none 0 0] 25))
          clear HT HS g6 c0 c1
          go_wp2_with fail
          go_ret
          exact ⟨rfl, HE.out.below0⟩
        · have ht := take_all HS.out.1.set.runs (by have := takeL_ok HS.out.1.set.runs (show 1 ≤ s by omega) (by rw [HSM.out]; exact Nat.le_refl _); rw [HSM.out] at this; exact this)
          rw [← HSM.out] at ht
          have HT := Lib.hid (atake_is 60 l [] l ao cap s 0 m _ HS.out.1.set (by omega) (by rw [HSM.out]; exact Nat.le_refl _) (Prod.ext ht.1 ht.2) rfl HM.out)
          rw [← HM.out] at HT
          clear ht
          refine HT.out.mono ?_
          rintro e w6 ⟨ao6, cap6, a2, c2, rfl, s6, t6, g6⟩
          have ga := (Gr.refl [] w6).alloc (Obj.cells #[.int .i64 60, .slice ao6 0 cap6] 25)
          have Y := Holds.new w6 #[.int .i64 60, .slice ao6 0 cap6] 25
          have y0 : (w6.alloc (Obj.cells #[.int .i64 60, .slice ao6 0 cap6] 25)).cell? ⟨w6.heap.size, 0, none⟩ = some (.int .i64 60) := Y.cell 0
          have y1 : (w6.alloc (Obj.cells #[.int .i64 60, .slice ao6 0 cap6] 25)).cell? ⟨w6.heap.size, 1, none⟩ = some (.slice ao6 0 cap6) := Y.cell 1
          have gg := g6.trans ga
          have HS6 := Lib.hid (And.intro (s6.gr0 ga) (And.intro (sl2_rd (t6.gr0 ga)) (And.intro (sl2_rd (HS.out.2.gr0 gg)) (HS.out.1.gr.next0 gg))))
          clear HS HT c0 c1 s6 t6 g6 ga Y gg
          go_wp2_with fail
          refine (afree_any 60 [] ao6 cap6 _ HS6.out.1).mono ?_
          rintro e w7 ⟨rfl, g7⟩
          have HS7 := Lib.hid (And.intro (HS6.out.2.1.gr0 g7) (And.intro (HS6.out.2.2.1.gr0 g7) (HS6.out.2.2.2.next0 g7)))
          clear g7 HS6 y0 y1
          go_wp2_with fail
          go_loopw [97] (fun i wr => ∃ k : Nat, k ≤ m ∧ i = .int .i64 k ∧ Gr [] w7 wr) (fun i _ => m - (intOf i).toNat)
          case atStart => exact ⟨0, by omega, rfl, Gr.refl _ _⟩
          case round =>
            obtain ⟨k', hk', rfl, G⟩ := hrel
            have HG := Lib.hid G
            clear G
            by_cases hkm : k' < m
            · obtain ⟨x, hx⟩ : ∃ x, (zl l)[k']? = some x := ⟨_, List.getElem?_eq_getElem (by rw [zl_len]; have := HM.out; omega)⟩
              obtain ⟨b2, o2, e2, hb2, p1, p2⟩ := (HS7.out.1.gr0 HG.out) k' x hx
              obtain ⟨b3, o3, e3, hb3, p3, p4⟩ := (HS7.out.2.1.gr0 HG.out) k' x hx
              subst e2 e3
              have q1 := kp_cell p1
              have q2 := kp_cell p2
              have q3 := kp_cell p3
              have q4 := kp_cell p4
              have hne := kp_ne wr
              clear hx p1 p2 p3 p4 hb2 hb3
              go_wp2_with fail
              refine wp_region_kp (by kernel_rfl) (by kernel_rfl) ?_
              repeat (go_big_quiet_step (fail))
              with_reducible refine wpQuiet_nil ?_
              rintro _ ⟨y, rfl⟩
              have HE := Lib.hid (HG.out.nextB y.h)
              clear q1 q2 q3 q4 hne
              go_wp2
              go_roundw
              case rel => exact ⟨k' + 1, by omega, by go_num, HE.out⟩
              case measure => simp [intOf]; omega
            · obtain rfl : k' = m := by omega
              have HE := Lib.hid (HS7.out.2.2.next0 HG.out)
              go_wp2_with fail
              go_ret
              exact ⟨rfl, HE.out.below0⟩

  | some a =>
    go_enter Try.func6, Try.ntmps6
    go_wp2_with fail
    refine (anew_runs 60 _ (by decide) (by decide)).mono ?_
    rintro e w1 ⟨ao, cap, rfl, s1, g1⟩
    have S1 : SBox w (w1.alloc (Obj.cells #[.int .i64 60, .slice ao 1 cap] 25)) w1.heap.size 60 [(0, 60)] ao cap := by
      have ga := (Gr.refl [] w1).alloc (Obj.cells #[.int .i64 60, .slice ao 1 cap] 25)
      refine ⟨Holds.new w1 _ _, s1.gr0 ga, g1.next0 ga, g1.size, fun k o e => ?_⟩
      obtain ⟨b, o', h1, h2, _⟩ := s1.at (i := 0) rfl
      rw [h1] at e
      injection e with e
      injection e with e1 e2
      omega
    clear s1 g1
    have HS1 := Lib.hid S1
    clear S1
    go_wp2_with fail
    refine (wakes14_any _).mono ?_
    rintro e w2 ⟨rfl, g2⟩
    have S2 := HS1.out.gr0 g2
    clear g2 HS1
    obtain ⟨Bs, hBs⟩ : ∃ Bs, w1.heap.size = Bs := ⟨_, rfl⟩
    rw [hBs] at S2 ⊢
    clear hBs
    go_wp2_with fail
    go_loopw [34] (fun i wr => ∃ (k : Nat) (l : List (Nat × Nat)) (ao : Option Addr) (cap : Nat), k ≤ M ∧ i = .int .i64 k ∧ SBox w wr Bs 60 l ao cap) (fun i _ => M - (intOf i).toNat)
    case atStart => exact ⟨0, _, _, _, by omega, rfl, S2⟩
    case round =>
      clear S2
      obtain ⟨k, l, ao, cap, hk, rfl, S⟩ := hrel
      have HS := Lib.hid S
      have c0 := S.c0
      have c1 := S.c1
      clear S
      by_cases hkM : k < M
      · obtain ⟨b, o, hao, hb, hc, hq⟩ := HQ.out k (by omega)
        injection hao with hao
        subst hao
        obtain ⟨x, hx⟩ : ∃ x, x = q k := ⟨_, rfl⟩
        rw [← hx] at hc hq
        have hcl : wr.cell? ⟨b, o + k, none⟩ = some (.int .u8 (x : Int)) := by rw [HS.out.gr.cell0 hb]; exact hc
        obtain ⟨d, hd⟩ : ∃ d, d = x % 60 := ⟨_, rfl⟩
        have hdm : (x : Int) % 60 = (d : Int) := by omega
        have hd60 : d < 60 := by omega
        clear hc hx hb hd
        cases hu : useL l d 1 with
        | none =>
          have HU := Lib.hid (ause_none 60 l ao cap d 1 wr HS.out.set (by unfold okE; omega) hu)
          clear hu
          go_wp2_with fail
          refine HU.out.mono ?_
          rintro e w3 ⟨rfl, g3⟩
          have HE := Lib.hid ((HS.out.gr0 g3).gr0 ((Gr.refl [] w3).alloc (Obj.cells #[.int .i64 0, .slice none 0 0] 25)))
          clear g3 c0 c1 hcl
          go_wp2
          go_roundw
          case rel => exact ⟨k + 1, _, _, _, by omega, by go_num, HE.out⟩
          case measure => simp [intOf]; omega
        | some l' =>
          have HU := Lib.hid (ause_some 60 l l' ao cap d 1 wr HS.out.set (by unfold okE; omega) hu)
          clear hu
          go_wp2_with fail
          refine HU.out.mono ?_
          rintro e w3 ⟨ao', cap', rfl, s3, g3, h3⟩
          have ga := (Gr.refl [] w3).alloc (Obj.cells #[.int .i64 60, .slice ao' l'.length cap'] 25)
          have S4 := (HS.out.gr0 g3).gr0 ga
          have Y := Holds.new w3 #[.int .i64 60, .slice ao' l'.length cap'] 25
          have hfar : ∀ k o, ao' = some ⟨k, o, none⟩ → k ≠ Bs := fun k o e => by have := h3 k o e; have := HS.out.box.lt; omega
          have HE := Lib.hid (S4.put (s3.gr0 ga) hfar)
          have c0 := S4.c0
          have c1 := S4.c1
          have f0 := S4.box.frozen 0
          have f1 := S4.box.frozen 1
          have y0 : (w3.alloc (Obj.cells #[.int .i64 60, .slice ao' l'.length cap'] 25)).cell? ⟨w3.heap.size, 0, none⟩ = some (.int .i64 60) := Y.cell 0
          have y1 : (w3.alloc (Obj.cells #[.int .i64 60, .slice ao' l'.length cap'] 25)).cell? ⟨w3.heap.size, 1, none⟩ = some (.slice ao' l'.length cap') := Y.cell 1
          clear s3 g3 h3 ga S4 Y hfar hcl
          go_wp2
          go_roundw
          case rel => exact ⟨k + 1, _, _, _, by omega, by go_num, HE.out⟩
          case measure => simp [intOf]; omega
      · obtain rfl : k = M := by omega
        have hlen := HS.out.set.len
        have hsm := HS.out.set.sum l.length
        rw [List.take_length] at hsm
        have HF := Lib.hid (afree_any 60 l ao cap wr HS.out.set)
        obtain ⟨s, hs⟩ : ∃ s, s = sumL l := ⟨_, rfl⟩
        rw [← hs] at HF hsm
        have HSM := Lib.hid hs
        clear hs
        obtain ⟨m, hm⟩ : ∃ m, m = l.length := ⟨_, rfl⟩
        rw [← hm] at HF c1 hlen
        have HM := Lib.hid hm
        clear hm
        go_wp2_with fail
        refine HF.out.mono ?_
        rintro e w3 ⟨rfl, g3⟩
        have S3 := HS.out.gr0 g3
        clear g3 HS HF c0 c1
        have c0 := S3.c0
        have c1 := S3.c1
        rw [← HM.out] at c1
        have HS := Lib.hid S3
        have HL := Lib.hid (alist_any 60 l ao cap w3 S3.set)
        rw [← HM.out] at HL
        clear S3
        go_wp2_with fail
        refine HL.out.mono ?_
        rintro e w4 ⟨ao2, cap2, rfl, r4, g4⟩
        have S4 := HS.out.gr0 g4
        clear HS HL c0 c1 g4
        have c0 := S4.c0
        have c1 := S4.c1
        rw [← HM.out] at c1
        have HS := Lib.hid S4
        have HT := Lib.hid (atake_no 60 l ao cap ((s : Int) + 1) w4 S4.set (by rw [← HSM.out]; omega))
        rw [if_neg (by omega), ← HM.out] at HT
        have HR := Lib.hid r4
        clear S4 r4
        go_wp2_with fail
        refine HT.out.mono ?_
        rintro e w5 ⟨rfl, g5⟩
        have ga := (Gr.refl [] w5).alloc (Obj.cells #[.int .i64 0, .slice none 0 0] 25)
        have S5 := (HS.out.gr0 g5).gr0 ga
        have R5 := (HR.out.gr0 g5).gr0 ga
        clear HS HT HR c0 c1 g5 ga
        have c0 := S5.c0
        have c1 := S5.c1
        rw [← HM.out] at c1
        have HS := Lib.hid (And.intro S5 R5)
        clear S5 R5
        go_wp2_with fail
        by_cases h0 : s = 0
        · subst h0
          have HT := Lib.hid (atake_no 60 l ao cap ((0 : Nat) : Int) _ HS.out.1.set (.inl (by decide)))
          rw [if_pos (by decide), ← HM.out] at HT
          refine HT.out.mono ?_
          rintro e w6 ⟨rfl, g6⟩
          have HE := Lib.hid ((HS.out.1.gr.next0 g6).alloc (Obj.cells #[.int .i64 0, .slice none 0 0] 25))
          clear HT HS g6 c0 c1
          go_wp2_with fail
          go_ret
          exact ⟨rfl, HE.out.below0⟩
        · have ht := take_all HS.out.1.set.runs (by have := takeL_ok HS.out.1.set.runs (show 1 ≤ s by omega) (by rw [HSM.out]; exact Nat.le_refl _); rw [HSM.out] at this; exact this)
          rw [← HSM.out] at ht
          have HT := Lib.hid (atake_is 60 l [] l ao cap s 0 m _ HS.out.1.set (by omega) (by rw [HSM.out]; exact Nat.le_refl _) (Prod.ext ht.1 ht.2) rfl HM.out)
          rw [← HM.out] at HT
          clear ht
          refine HT.out.mono ?_
          rintro e w6 ⟨ao6, cap6, a2, c2, rfl, s6, t6, g6⟩
          have ga := (Gr.refl [] w6).alloc (Obj.cells #[.int .i64 60, .slice ao6 0 cap6] 25)
          have Y := Holds.new w6 #[.int .i64 60, .slice ao6 0 cap6] 25
          have y0 : (w6.alloc (Obj.cells #[.int .i64 60, .slice ao6 0 cap6] 25)).cell? ⟨w6.heap.size, 0, none⟩ = some (.int .i64 60) := Y.cell 0
          have y1 : (w6.alloc (Obj.cells #[.int .i64 60, .slice ao6 0 cap6] 25)).cell? ⟨w6.heap.size, 1, none⟩ = some (.slice ao6 0 cap6) := Y.cell 1
          have gg := g6.trans ga
          have HS6 := Lib.hid (And.intro (s6.gr0 ga) (And.intro (sl2_rd (t6.gr0 ga)) (And.intro (sl2_rd (HS.out.2.gr0 gg)) (HS.out.1.gr.next0 gg))))
          clear HS HT c0 c1 s6 t6 g6 ga Y gg
          go_wp2_with fail
          refine (afree_any 60 [] ao6 cap6 _ HS6.out.1).mono ?_
          rintro e w7 ⟨rfl, g7⟩
          have HS7 := Lib.hid (And.intro (HS6.out.2.1.gr0 g7) (And.intro (HS6.out.2.2.1.gr0 g7) (HS6.out.2.2.2.next0 g7)))
          clear g7 HS6 y0 y1
          go_wp2_with fail
          go_loopw [97] (fun i wr => ∃ k : Nat, k ≤ m ∧ i = .int .i64 k ∧ Gr [] w7 wr) (fun i _ => m - (intOf i).toNat)
          case atStart => exact ⟨0, by omega, rfl, Gr.refl _ _⟩
          case round =>
            obtain ⟨k', hk', rfl, G⟩ := hrel
            have HG := Lib.hid G
            clear G
            by_cases hkm : k' < m
            · obtain ⟨x, hx⟩ : ∃ x, (zl l)[k']? = some x := ⟨_, List.getElem?_eq_getElem (by rw [zl_len]; have := HM.out; omega)⟩
              obtain ⟨b2, o2, e2, hb2, p1, p2⟩ := (HS7.out.1.gr0 HG.out) k' x hx
              obtain ⟨b3, o3, e3, hb3, p3, p4⟩ := (HS7.out.2.1.gr0 HG.out) k' x hx
              subst e2 e3
              have q1 := kp_cell p1
              have q2 := kp_cell p2
              have q3 := kp_cell p3
              have q4 := kp_cell p4
              have hne := kp_ne wr
              clear hx p1 p2 p3 p4 hb2 hb3
              go_wp2_with fail
              refine wp_region_kp (by kernel_rfl) (by kernel_rfl) ?_
              repeat (go_big_quiet_step (fail))
              with_reducible refine wpQuiet_nil ?_
              rintro _ ⟨y, rfl⟩
              have HE := Lib.hid (HG.out.nextB y.h)
              clear q1 q2 q3 q4 hne
              go_wp2
              go_roundw
              case rel => exact ⟨k' + 1, by omega, by go_num, HE.out⟩
              case measure => simp [intOf]; omega
            · obtain rfl : k' = m := by omega
              have HE := Lib.hid (HS7.out.2.2.next0 HG.out)
              go_wp2_with fail
              go_ret
              exact ⟨rfl, HE.out.below0⟩


theorem walk_AllocAll (v : Value) (xs : List Int) {w : World} (h : SlI .u8 w v xs) (hx : ∀ x ∈ xs, (Lit.int .u8 x).wf = true) :
    Calls Try.prog 6 #[v] w fun e w' => e = .returned (.bool true) ∧ Below w.heap.size w w' := by
  rcases h with ⟨ao, cap, rfl, rfl, hn, hm⟩ | ⟨b, off, cap, rfl, h1, h2, h3, h4, h5⟩
  · exact all_any ao 0 cap (fun _ => 0) w (fun k hk => by omega) hn (Nat.zero_le _) hm
  · refine all_any _ xs.length cap (fun k => (xs.getD k 0).toNat) w (fun k hk => ?_) (fun e => by cases e) h2 h3
    have hg := List.getElem?_eq_getElem hk
    have hb := bounds_u8 (hx _ (List.mem_of_getElem? hg))
    have hd : xs.getD k 0 = xs[k] := by simp [List.getD, hg]
    refine ⟨b, off, rfl, h4, ?_, ?_⟩
    · rw [h5 k _ hg, hd]
      congr 2
      omega
    · show (xs.getD k 0).toNat < 256
      rw [hd]; omega

end Go.Proofs.Ytpkhfdcokcchdaa
