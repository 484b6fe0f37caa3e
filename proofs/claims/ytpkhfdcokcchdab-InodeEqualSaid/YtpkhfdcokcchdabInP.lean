/-
  Layer 16: the law's tame.
-/
import Derived.Test.YtpkhfdcokcchdabInO
import Derived.Test.YtpkhfdcokcchdabExD
import Derived.Deep.CutRange
namespace Go.Proofs.Ytpkhfdcokcchdab
open Go.RowKit

theorem maxZ (P : Program) (x y m : Int) (h : m = max x y) (ts : Array TypeId) (t : TypeId) (w : World) : (Builtin.max_ ts t #[.int .i64 x, .int .i64 y]).run P w = .ok (.int .i64 m) w := by
  rw [run_max_int2]
  have : (if x < y then y else x) = m := by split <;> omega
  rw [this]
theorem holds5 {w : World} {b : Nat} {a0 a1 a2 a3 a4 c0 c1 c2 c3 c4 : Value} {t : TypeId} (h : Holds w b #[a0, a1, a2, a3, a4] t) :
    Holds (((((w.setCell ⟨b, 0, none⟩ c0).setCell ⟨b, 1, none⟩ c1).setCell ⟨b, 2, none⟩ c2).setCell ⟨b, 3, none⟩ c3).setCell ⟨b, 4, none⟩ c4) b #[c0, c1, c2, c3, c4] t := ((((h.set 0 c0).set 1 c1).set 2 c2).set 3 c3).set 4 c4
theorem gr5 {w0 w : World} {b : Nat} {bs : List Nat} (h : Gr bs w0 w) (hb : b ∈ bs ∨ w0.heap.size ≤ b) (c0 c1 c2 c3 c4 : Value) :
    Gr bs w0 (((((w.setCell ⟨b, 0, none⟩ c0).setCell ⟨b, 1, none⟩ c1).setCell ⟨b, 2, none⟩ c2).setCell ⟨b, 3, none⟩ c3).setCell ⟨b, 4, none⟩ c4) :=
  ((((h.setCell (p := ⟨b, 0, none⟩) hb c0).setCell (p := ⟨b, 1, none⟩) hb c1).setCell (p := ⟨b, 2, none⟩) hb c2).setCell (p := ⟨b, 3, none⟩) hb c3).setCell (p := ⟨b, 4, none⟩) hb c4
theorem far5 {w : World} {b b' : Nat} {cs : Array Value} {t : TypeId} (h : Holds w b cs t) (hb : b ≠ b') (c0 c1 c2 c3 c4 : Value) :
    Holds (((((w.setCell ⟨b', 0, none⟩ c0).setCell ⟨b', 1, none⟩ c1).setCell ⟨b', 2, none⟩ c2).setCell ⟨b', 3, none⟩ c3).setCell ⟨b', 4, none⟩ c4) b cs t :=
  ((((h.far (a := ⟨b', 0, none⟩) hb c0).far (a := ⟨b', 1, none⟩) hb c1).far (a := ⟨b', 2, none⟩) hb c2).far (a := ⟨b', 3, none⟩) hb c3).far (a := ⟨b', 4, none⟩) hb c4
/-- What tame gives: an inode that may be. -/
def TamI (w : World) (e : Ending) (w' : World) : Prop :=
  ∃ (k : Nat) (l s : Int) (b : List (Int × Int)) (t : ByteArray) (ao : Option Addr) (cap : Nat), e = .returned (.agg #[.int .u8 k, .int .i64 l, .int .i64 s, .slice ao b.length cap, .string t]) ∧ Sl2 w' (.slice ao b.length cap) b ∧ Right16 k l s b t ∧ Gr [] w w'

set_option maxHeartbeats 8000000 in
set_option maxRecDepth 100000 in
theorem tame_dir (k : Nat) (l s : Int) (bl : List (Int × Int)) (t : ByteArray) (N : Nat) (ao : Option Addr) (cV : Nat) (w : World) (hv : Sl2 w (.slice ao N cV) bl) (ht : t.size ≤ maxLen) (hk : (k : Int) % 3 = 1) (hk0 : k < 256) :
    Calls Try.prog 12 #[.agg #[.int .u8 k, .int .i64 l, .int .i64 s, .slice ao N cV, .string t]] w (TamI w) := by
  obtain ⟨M, hM⟩ : ∃ M, M = min N 70 := ⟨_, rfl⟩
  obtain ⟨U, hU⟩ : ∃ U, U = t.extract 0 (min t.size 300) := ⟨_, rfl⟩
  obtain ⟨cl, hcl⟩ : ∃ cl, cl = bl.take 70 := ⟨_, rfl⟩
  have hU300 : U.size ≤ 300 := by rw [hU, ByteArray.size_extract]; omega
  have hM70 : M ≤ 70 := by omega
  have HG1 := Lib.hid (((Gr.refl [] w).alloc (Obj.cells #[.int .u8 k, .int .i64 l, .int .i64 s, .slice ao N cV, .string t] 24)).alloc (Obj.cells #[.int .u8 0, .int .i64 0, .int .i64 0, .slice none 0 0, .string ⟨#[]⟩] 24))
  have HA1 := Lib.hid ((Holds.new w #[.int .u8 k, .int .i64 l, .int .i64 s, .slice ao N cV, .string t] 24).alloc (Obj.cells #[.int .u8 0, .int .i64 0, .int .i64 0, .slice none 0 0, .string ⟨#[]⟩] 24))
  have hz := Holds.new (w.alloc (Obj.cells #[.int .u8 k, .int .i64 l, .int .i64 s, .slice ao N cV, .string t] 24)) #[.int .u8 0, .int .i64 0, .int .i64 0, .slice none 0 0, .string ⟨#[]⟩] 24
  rw [World.size_alloc] at hz
  have HZ1 := Lib.hid hz
  have HCT := Lib.hid (ecut16_any k l s bl t N ao cV _ (hv.gr0 HG1.out) ht)
  rw [← hM, ← hU] at HCT
  have hvc := sl2_take hv 70
  rw [← hM, ← hcl] at hvc
  have HVC := Lib.hid (And.intro hvc (sl2_parts hvc))
  have HM := Lib.hid (show M = cl.length from (sl2_parts hvc).1)
  have hmx := max0 Try.prog
  have hl0 := mx_nonneg l
  have hs0 := mx_nonneg s
  obtain ⟨l1, hl1⟩ : ∃ l1, l1 = mx l % 1001 := ⟨_, rfl⟩
  have hl1b : 0 ≤ l1 ∧ l1 ≤ 1000 := by omega
  have HL1 := Lib.hid hl1
  clear hz hv ht hM hU hcl hvc hl1
  go_enter Try.func12, Try.ntmps12
  go_wp2_with fail
  with_reducible refine HCT.out.mono ?_
  rintro e w1 ⟨rfl, g1⟩
  have HA2 := Lib.hid (HA1.out.gr0 g1)
  have HZ2 := Lib.hid (HZ1.out.gr0 g1)
  have HG2 := Lib.hid (HG1.out.next0 g1)
  clear g1 HA1 HZ1 HG1 HCT
  have HA3 := Lib.hid (holds5 (c0 := .int .u8 k) (c1 := .int .i64 l) (c2 := .int .i64 s) (c3 := .slice ao M cV) (c4 := .string U) HA2.out)
  have HZ3 := Lib.hid (far5 HZ2.out (b' := w.heap.size) (by omega) (.int .u8 k) (.int .i64 l) (.int .i64 s) (.slice ao M cV) (.string U))
  have HG3 := Lib.hid (gr5 HG2.out (b := w.heap.size) (.inr (Nat.le_refl _)) (.int .u8 k) (.int .i64 l) (.int .i64 s) (.slice ao M cV) (.string U))
  have a0 := HA2.out.cell 0
  have a1 := HA2.out.cell 1
  have a2 := HA2.out.cell 2
  have a3 := HA2.out.cell 3
  have a4 := HA2.out.cell 4
  have f0 := HA2.out.frozen 0
  have f1 := HA2.out.frozen 1
  have f2 := HA2.out.frozen 2
  have f3 := HA2.out.frozen 3
  have f4 := HA2.out.frozen 4
  go_upto_region 2 with fail
  generalize (((((w1.setCell ⟨w.heap.size, 0, none⟩ (.int .u8 k)).setCell ⟨w.heap.size, 1, none⟩ (.int .i64 l)).setCell ⟨w.heap.size, 2, none⟩ (.int .i64 s)).setCell ⟨w.heap.size, 3, none⟩ (.slice ao M cV)).setCell ⟨w.heap.size, 4, none⟩ (.string U)) = w2 at *
  clear a0 a1 a2 a3 a4 f0 f1 f2 f3 f4 HA2 HZ2 HG2
  have a0 := HA3.out.cell 0
  have a1 := HA3.out.cell 1
  have hl2 : mx l % 1001 = l1 := HL1.out.symm
  have HY4 := Lib.hid (Holds.new w2 #[.int .u8 2, .int .i64 l1, .int .i64 0, .slice none 0 0, .string ⟨#[]⟩] 24)
  have HA4 := Lib.hid (HA3.out.alloc (Obj.cells #[.int .u8 2, .int .i64 l1, .int .i64 0, .slice none 0 0, .string ⟨#[]⟩] 24))
  have HZ4 := Lib.hid (HZ3.out.alloc (Obj.cells #[.int .u8 2, .int .i64 l1, .int .i64 0, .slice none 0 0, .string ⟨#[]⟩] 24))
  have HG4 := Lib.hid (HG3.out.alloc (Obj.cells #[.int .u8 2, .int .i64 l1, .int .i64 0, .slice none 0 0, .string ⟨#[]⟩] 24))
  have HBZ := Lib.hid (HZ3.out.lt)
  go_upto_region 29 with fail
  generalize w2.alloc (Obj.cells #[.int .u8 2, .int .i64 l1, .int .i64 0, .slice none 0 0, .string ⟨#[]⟩] 24) = w3 at *
  generalize w2.heap.size = b3 at *
  have HY := HY4
  have HZ := HZ4
  have HG := HG4
  clear a0 a1
  have x0 := HY.out.cell 0
  have x1 := HY.out.cell 1
  have x2 := HY.out.cell 2
  have x3 := HY.out.cell 3
  have x4 := HY.out.cell 4
  have r0 := HZ.out.cell 0
  have r1 := HZ.out.cell 1
  have r2 := HZ.out.cell 2
  have r3 := HZ.out.cell 3
  have r4 := HZ.out.cell 4
  have f0 := HZ.out.frozen 0
  have f1 := HZ.out.frozen 1
  have f2 := HZ.out.frozen 2
  have f3 := HZ.out.frozen 3
  have f4 := HZ.out.frozen 4
  go_wp2_with fail
  refine bodyPost_ret (v := .agg #[.int .u8 2, .int .i64 l1, .int .i64 0, .slice none 0 0, .string ⟨#[]⟩]) (by simp [results, Try.results12, go_sem, *]) rfl ⟨2, l1, 0, [], ⟨#[]⟩, none, 0, rfl, ?_, ⟨hl1b.1, hl1b.2, .inr (.inl ⟨rfl, rfl, rfl, rfl⟩)⟩, ?_⟩
  · exact (sl2_nil0 _)
  · exact gr5 HG.out (b := w.heap.size + 1) (.inr (by simp)) _ _ _ _ _
def upB (x : UInt8) : UInt8 := UInt8.ofNat (1 + x.toNat % 255)
set_option maxHeartbeats 8000000 in
set_option maxRecDepth 100000 in
theorem tame_link (k : Nat) (l s : Int) (bl : List (Int × Int)) (t : ByteArray) (N : Nat) (ao : Option Addr) (cV : Nat) (w : World) (hv : Sl2 w (.slice ao N cV) bl) (ht : t.size ≤ maxLen) (hk : (k : Int) % 3 = 2) (hk0 : k < 256) :
    Calls Try.prog 12 #[.agg #[.int .u8 k, .int .i64 l, .int .i64 s, .slice ao N cV, .string t]] w (TamI w) := by
  obtain ⟨M, hM⟩ : ∃ M, M = min N 70 := ⟨_, rfl⟩
  obtain ⟨U, hU⟩ : ∃ U, U = t.extract 0 (min t.size 300) := ⟨_, rfl⟩
  obtain ⟨cl, hcl⟩ : ∃ cl, cl = bl.take 70 := ⟨_, rfl⟩
  have hU300 : U.size ≤ 300 := by rw [hU, ByteArray.size_extract]; omega
  have hM70 : M ≤ 70 := by omega
  have HG1 := Lib.hid (((Gr.refl [] w).alloc (Obj.cells #[.int .u8 k, .int .i64 l, .int .i64 s, .slice ao N cV, .string t] 24)).alloc (Obj.cells #[.int .u8 0, .int .i64 0, .int .i64 0, .slice none 0 0, .string ⟨#[]⟩] 24))
  have HA1 := Lib.hid ((Holds.new w #[.int .u8 k, .int .i64 l, .int .i64 s, .slice ao N cV, .string t] 24).alloc (Obj.cells #[.int .u8 0, .int .i64 0, .int .i64 0, .slice none 0 0, .string ⟨#[]⟩] 24))
  have hz := Holds.new (w.alloc (Obj.cells #[.int .u8 k, .int .i64 l, .int .i64 s, .slice ao N cV, .string t] 24)) #[.int .u8 0, .int .i64 0, .int .i64 0, .slice none 0 0, .string ⟨#[]⟩] 24
  rw [World.size_alloc] at hz
  have HZ1 := Lib.hid hz
  have HCT := Lib.hid (ecut16_any k l s bl t N ao cV _ (hv.gr0 HG1.out) ht)
  rw [← hM, ← hU] at HCT
  have hvc := sl2_take hv 70
  rw [← hM, ← hcl] at hvc
  have HVC := Lib.hid (And.intro hvc (sl2_parts hvc))
  have HM := Lib.hid (show M = cl.length from (sl2_parts hvc).1)
  have hmx := max0 Try.prog
  have hl0 := mx_nonneg l
  have hs0 := mx_nonneg s
  obtain ⟨l1, hl1⟩ : ∃ l1, l1 = mx l % 1001 := ⟨_, rfl⟩
  have hl1b : 0 ≤ l1 ∧ l1 ≤ 1000 := by omega
  have HL1 := Lib.hid hl1
  clear hz hv ht hM hU hcl hvc hl1
  go_enter Try.func12, Try.ntmps12
  go_wp2_with fail
  with_reducible refine HCT.out.mono ?_
  rintro e w1 ⟨rfl, g1⟩
  have HA2 := Lib.hid (HA1.out.gr0 g1)
  have HZ2 := Lib.hid (HZ1.out.gr0 g1)
  have HG2 := Lib.hid (HG1.out.next0 g1)
  clear g1 HA1 HZ1 HG1 HCT
  have HA3 := Lib.hid (holds5 (c0 := .int .u8 k) (c1 := .int .i64 l) (c2 := .int .i64 s) (c3 := .slice ao M cV) (c4 := .string U) HA2.out)
  have HZ3 := Lib.hid (far5 HZ2.out (b' := w.heap.size) (by omega) (.int .u8 k) (.int .i64 l) (.int .i64 s) (.slice ao M cV) (.string U))
  have HG3 := Lib.hid (gr5 HG2.out (b := w.heap.size) (.inr (Nat.le_refl _)) (.int .u8 k) (.int .i64 l) (.int .i64 s) (.slice ao M cV) (.string U))
  have a0 := HA2.out.cell 0
  have a1 := HA2.out.cell 1
  have a2 := HA2.out.cell 2
  have a3 := HA2.out.cell 3
  have a4 := HA2.out.cell 4
  have f0 := HA2.out.frozen 0
  have f1 := HA2.out.frozen 1
  have f2 := HA2.out.frozen 2
  have f3 := HA2.out.frozen 3
  have f4 := HA2.out.frozen 4
  go_upto_region 2 with fail
  generalize (((((w1.setCell ⟨w.heap.size, 0, none⟩ (.int .u8 k)).setCell ⟨w.heap.size, 1, none⟩ (.int .i64 l)).setCell ⟨w.heap.size, 2, none⟩ (.int .i64 s)).setCell ⟨w.heap.size, 3, none⟩ (.slice ao M cV)).setCell ⟨w.heap.size, 4, none⟩ (.string U)) = w2 at *
  clear a0 a1 a2 a3 a4 f0 f1 f2 f3 f4 HA2 HZ2 HG2
  have a0 := HA3.out.cell 0
  have a1 := HA3.out.cell 1
  have hl2 : mx l % 1001 = l1 := HL1.out.symm
  have HY4 := Lib.hid (Holds.new w2 #[.int .u8 3, .int .i64 l1, .int .i64 0, .slice none 0 0, .string ⟨#[]⟩] 24)
  have HA4 := Lib.hid (HA3.out.alloc (Obj.cells #[.int .u8 3, .int .i64 l1, .int .i64 0, .slice none 0 0, .string ⟨#[]⟩] 24))
  have HZ4 := Lib.hid (HZ3.out.alloc (Obj.cells #[.int .u8 3, .int .i64 l1, .int .i64 0, .slice none 0 0, .string ⟨#[]⟩] 24))
  have HG4 := Lib.hid (HG3.out.alloc (Obj.cells #[.int .u8 3, .int .i64 l1, .int .i64 0, .slice none 0 0, .string ⟨#[]⟩] 24))
  have HBZ := Lib.hid (HZ3.out.lt)
  go_upto_region 22 with fail
  generalize w2.alloc (Obj.cells #[.int .u8 3, .int .i64 l1, .int .i64 0, .slice none 0 0, .string ⟨#[]⟩] 24) = w3 at *
  generalize w2.heap.size = b3 at *
  have a0 := HA4.out.cell 0
  have a4 := HA4.out.cell 4
  have hbz : w.heap.size ≠ b3 := by have := HBZ.out; omega
  have hbz2 : w.heap.size + 1 ≠ b3 := by have := HBZ.out; omega
  have hb3 : w.heap.size ≤ b3 := by have := HBZ.out; omega
  go_wp2_with fail
  clear a0 a4
  go_loopw [82] (fun i wr => ∃ (j : Nat) (Y : ByteArray), j ≤ U.size ∧ i = .int .i64 j ∧ Hid (Y.data.toList = (U.data.toList.take j).map upB) ∧ Holds wr b3 #[.int .u8 3, .int .i64 l1, .int .i64 0, .slice none 0 0, .string Y] 24 ∧ Gr [b3] w3 wr) (fun i _ => U.size - (intOf i).toNat)
  case atStart => exact ⟨0, ⟨#[]⟩, by omega, rfl, Lib.hid rfl, HY4.out, Gr.refl _ _⟩
  case round =>
    obtain ⟨j, Y, hj, rfl, HYS, hy, G⟩ := hrel
    have hA := HA4.out.gr G (by simp [hbz])
    have HZr := Lib.hid (HZ4.out.gr G (by simp [hbz2]))
    have HGr := Lib.hid (HG4.out.nextN G (fun x hx => .inr (by simp at hx; omega)))
    by_cases hjn : j < U.size
    · have hjn2 : (j : Int) < (U.size : Int) := by omega
      have hget := str_at U j hjn
      obtain ⟨c, hc⟩ : ∃ c : Nat, c = 1 + U[j].toNat % 255 := ⟨_, rfl⟩
      have hc256 : c < 256 := by omega
      have hw : IntKind.u8.wrap (1 + (U[j].toNat : Int) % 255) = (c : Int) := by
        rw [show (1 + (U[j].toNat : Int) % 255) = (c : Int) by omega]
        exact IntWalk.u8_in _ (by omega)
      obtain ⟨S1, hS1⟩ := mkS (putL c 1)
      obtain ⟨Y1, hY1⟩ : ∃ Y1, Y1 = Y ++ S1 := ⟨_, rfl⟩
      have zY : Y.size ≤ 300 := by rw [Lib.size_eq, HYS.out, List.length_map, List.length_take]; omega
      have zS : S1.size = 1 := by rw [Lib.size_eq, hS1, putL_length]
      have hadd := fun (W : World) => (run_string_add_sum (P := Try.prog) (w := W) Y S1 (by omega)).trans (by rw [← hY1])
      have hconv := conv1s c S1 (wr.alloc (Obj.cells #[.int .u8 c] 5)) wr.heap.size hc256 hS1 ((Holds.new wr #[.int .u8 c] 5).cell 0)
      have hconvd := conv1s c S1 (wr.alloc (Obj.cells #[.int .u8 c] 5)).drew wr.heap.size hc256 hS1 ((Holds.new wr #[.int .u8 c] 5).drew.cell 0)
      have HN := Lib.hid (show Y1.data.toList = (U.data.toList.take (j + 1)).map upB by
        rw [hY1, str_app, HYS.out, hS1, take_snoc2 hget, List.map_append, putL_succ c 0]
        simp [putL, upB, ← hc, Nat.mod_eq_of_lt hc256])
      have hya := hy.alloc (Obj.cells #[.int .u8 c] 5)
      have hAa := hA.alloc (Obj.cells #[.int .u8 c] 5)
      have HYA := Lib.hid hya
      have HGA := Lib.hid (G.alloc (Obj.cells #[.int .u8 c] 5))
      have y0 := hy.cell 0
      have y4 := hy.cell 4
      have a0 := hA.cell 0
      have a4 := hA.cell 4
      have y0b := hya.cell 0
      have y4b := hya.cell 4
      have a0b := hAa.cell 0
      have a4b := hAa.cell 4
      have g4 := hya.frozen 4
      have g4b := hy.frozen 4
      clear hya hAa hy hA G hY1 hS1 hc hget
      go_wp2_with fail
      go_region
      all_goals
        go_wp2_with fail
        go_roundw
        case rel => exact ⟨j + 1, Y1, by omega, by go_num, HN, (HYA.out.set 4 _).drew, (HGA.out.setCell (p := ⟨b3, 4, none⟩) (.inl (by simp)) _).drew⟩
        case measure => simp [intOf]; omega
    · have hjU : j = U.size := by omega
      have htk : U.data.toList.take j = U.data.toList := by rw [hjU, Lib.size_eq]; exact List.take_length
      rw [htk] at HYS
      have zY : Y.size = U.size := by rw [Lib.size_eq, HYS.out, List.length_map, ← Lib.size_eq]
      obtain ⟨V, hV⟩ : ∃ V, V = Y ++ ⟨#[97]⟩ := ⟨_, rfl⟩
      have zV : V.size = Y.size + 1 := by rw [hV, ByteArray.size_append]; rfl
      obtain ⟨q, hq⟩ : ∃ q, q = min (Y.size + 1) 256 := ⟨_, rfl⟩
      have hmn := minZ Try.prog ((Y.size : Int) + 1) 256 (q : Int) (by omega)
      have hwY : IntKind.i64.wrap ((Y.size : Int) + 1) = (Y.size : Int) + 1 := IntWalk.i64_in _ (by omega)
      have hadd := fun (W : World) => (run_string_add_sum (P := Try.prog) (w := W) Y ⟨#[97]⟩ (by show Y.size + 1 ≤ _; omega)).trans (by rw [← hV])
      have hqV : q ≤ V.size := by omega
      have hqVi : (q : Int) ≤ (V.size : Int) := by omega
      have HQ := Lib.hid (show (q : Int) = ((V.extract 0 q).size : Int) ∧ (V.extract 0 q).size ≠ 0 ∧ (V.extract 0 q).size ≤ 256 ∧ zfree (V.extract 0 q) by
        have z : (V.extract 0 q).size = q := by rw [ByteArray.size_extract]; omega
        refine ⟨by omega, by omega, by omega, ?_⟩
        unfold zfree
        rw [extr_list]
        cases hc : ((V.data.toList.drop 0).take (q - 0)).contains 0 with
        | false => rfl
        | true =>
          exfalso
          have h1 := List.mem_of_mem_drop (List.mem_of_mem_take (List.mem_of_elem_eq_true hc))
          rw [hV, str_app, HYS.out] at h1
          rcases List.mem_append.1 h1 with h2 | h2
          · obtain ⟨x, _, hx⟩ := List.mem_map.1 h2
            have := congrArg UInt8.toNat hx
            unfold upB at this
            simp [Nat.mod_eq_of_lt (show 1 + x.toNat % 255 < 256 by omega)] at this
          · simp at h2)
      have y0 := hy.cell 0
      have y4 := hy.cell 4
      have g4 := hy.frozen 4
      have y2 := hy.cell 2
      have g2 := hy.frozen 2
      have HYr := Lib.hid hy
      have hjni : ¬ (j : Int) < (U.size : Int) := by omega
      clear hy hA G hV hq zV zY htk hjU HYS
      go_upto_region 29 with fail
      obtain ⟨Q, hQ⟩ : ∃ Q, Q = V.extract 0 q := ⟨_, rfl⟩
      rw [← hQ] at HQ ⊢
      clear hQ
      have HY := Lib.hid (show Holds ((wr.setCell ⟨b3, 4, none⟩ (.string Q)).setCell ⟨b3, 2, none⟩ (.int .i64 q)) b3 #[.int .u8 3, .int .i64 l1, .int .i64 q, .slice none 0 0, .string Q] 24 from (HYr.out.set 4 _).set 2 _)
      have HZ := Lib.hid ((HZr.out.far (a := ⟨b3, 4, none⟩) hbz2 (.string Q)).far (a := ⟨b3, 2, none⟩) hbz2 (.int .i64 q))
      have HG := Lib.hid ((HGr.out.setCell (p := ⟨b3, 4, none⟩) (.inr hb3) (.string Q)).setCell (p := ⟨b3, 2, none⟩) (.inr hb3) (.int .i64 q))
      generalize (wr.setCell ⟨b3, 4, none⟩ (.string Q)).setCell ⟨b3, 2, none⟩ (.int .i64 q) = w6 at *
      clear y0 y4 g4 y2 g2 HYr HZr HGr hmn hwY hadd hqV hqVi
      have x0 := HY.out.cell 0
      have x1 := HY.out.cell 1
      have x2 := HY.out.cell 2
      have x3 := HY.out.cell 3
      have x4 := HY.out.cell 4
      have r0 := HZ.out.cell 0
      have r1 := HZ.out.cell 1
      have r2 := HZ.out.cell 2
      have r3 := HZ.out.cell 3
      have r4 := HZ.out.cell 4
      have f0 := HZ.out.frozen 0
      have f1 := HZ.out.frozen 1
      have f2 := HZ.out.frozen 2
      have f3 := HZ.out.frozen 3
      have f4 := HZ.out.frozen 4
      go_wp2_with fail
      refine bodyPost_ret (v := .agg #[.int .u8 3, .int .i64 l1, .int .i64 q, .slice none 0 0, .string Q]) (by simp [results, Try.results12, go_sem, *]) rfl ⟨3, l1, (q : Int), [], Q, none, 0, rfl, ?_, ⟨hl1b.1, hl1b.2, .inr (.inr ⟨rfl, HQ.out.2.1, HQ.out.2.2.1, HQ.out.2.2.2, HQ.out.1, rfl⟩)⟩, ?_⟩
      · exact (sl2_nil0 _)
      · exact gr5 HG.out (b := w.heap.size + 1) (.inr (by simp)) _ _ _ _ _

end Go.Proofs.Ytpkhfdcokcchdab
