/-
  HotAlike: the law's small; pages at work after so many writes.
-/
import Derived.Test.YtefmbchebobceaaGreatHkAa
import Derived.Test.YtefmbchebobceaaGreatHkAb
import Derived.Test.YtefmbchebobceaaGreatHkAc
import Derived.Test.YtefmbchebobceaaGreatHkAd
import Derived.Test.YtefmbchebobceaaGreatHkAe
import Derived.Test.YtefmbchebobceaaGreatHkAf
import Derived.Test.YtefmbchebobceaaGreatHkAg
import Derived.Test.YtefmbchebobceaaGreatHkAh
import Derived.Test.YtefmbchebobceaaGreatHkAi
import Derived.Test.YtefmbchebobceaaGreatHkAj
import Derived.Test.YtefmbchebobceaaGreatHkAk
import Derived.Test.YtefmbchebobceaaGreatHkAl
import Derived.Test.YtefmbchebobceaaGreatHkAm
import Derived.Test.YtefmbchebobceaaGreatHkAn
import Derived.Test.YtefmbchebobceaaGreatHkAo
import Derived.Test.YtefmbchebobceaaGreatHkAp
import Derived.Test.YtefmbchebobceaaGreatHkAq
import Derived.Test.YtefmbchebobceaaGreatHkAr
import Derived.Test.YtefmbchebobceaaGreatHkAs
import Derived.Test.YtefmbchebobceaaGreatHkAt
import Derived.Test.YtefmbchebobceaaGreatHkAu
import Derived.Test.YtefmbchebobceaaGreatHkAv
import Derived.Test.YtefmbchebobceaaGreatHkAw
import Derived.Test.YtefmbchebobceaaGreatHkAx
import Derived.Test.YtefmbchebobceaaGreatHkAy
import Derived.Test.YtefmbchebobceaaGreatHkAz
import Derived.Test.YtefmbchebobceaaGreatHkBa
import Derived.Test.YtefmbchebobceaaGreatHkBb
import Derived.Test.YtefmbchebobceaaGreatHkBc
import Derived.Test.YtefmbchebobceaaGreatHkBd
import Derived.Test.YtefmbchebobceaaGreatHkBe
import Derived.Test.YtefmbchebobceaaGreatHkBf
import Derived.Test.YtefmbchebobceaaGreatHkBg
import Derived.Test.YtefmbchebobceaaGreatHkBh
import Derived.Test.YtefmbchebobceaaGreatHkBi
import Derived.Test.YtefmbchebobceaaGreatHkBj
import Derived.Test.YtefmbchebobceaaGreatHkBk
import Derived.Test.YtefmbchebobceaaGreatHpAg
import Derived.BigRegion

namespace Go.Proofs.YtefmbchebobceaaGreat
open Go.RowKit
set_option linter.unusedVariables false

def smC (r s p : Int) (key : Nat) : CfgZ := ⟨2 + mx r % 2, 16, mx s % 4, 1 + mx p % 4, key⟩
def smL (h : Int) : Int := 1 + mx h % 5
theorem smC_ok (r s p : Int) (key : Nat) (hk : key < 18446744073709551616) : OkC (smC r s p key) ∧ 0 < pgC (smC r s p key) ∧ pgC (smC r s p key) ≤ 2 ∧ 1 ≤ sizeC (smC r s p key) ∧ sizeC (smC r s p key) ≤ 67 := by
  have h0 := mx_nonneg r
  have h2 := mx_nonneg s
  have h3 := mx_nonneg p
  obtain ⟨C, hC⟩ : ∃ C, C = smC r s p key := ⟨_, rfl⟩
  rw [← hC]
  have e1 : C.r = 2 + mx r % 2 := by rw [hC]; rfl
  have e2 : C.l = 16 := by rw [hC]; rfl
  have e3 : C.s = mx s % 4 := by rw [hC]; rfl
  have e4 : C.psi = 1 + mx p % 4 := by rw [hC]; rfl
  have e5 : C.key = key := by rw [hC]; rfl
  clear hC
  have ok : okP C := by unfold okP; omega
  obtain ⟨_, hs⟩ := regS_ok ok
  have hrs : 0 ≤ regS C ∧ regS C ≤ 22 := by rw [hs]; omega
  have hm : C.r * regS C ≤ 3 * 22 := Int.mul_le_mul (by omega) hrs.2 hrs.1 (by omega)
  have hm0 : 0 ≤ C.r * regS C := Int.mul_nonneg (by omega) hrs.1
  have hO : OkC C := ⟨by omega, by omega, ok, by omega, by omega⟩
  have hz := hO.size
  have hp : pgC C = pgN (restC C) (restC C) := by
    unfold pgC
    rw [if_neg (by omega)]
  have hr : restC C = 2 ∨ restC C = 3 := by
    unfold restC
    rw [e2, e1]
    omega
  refine ⟨hO, ?_, ?_, by omega, by omega⟩
  · rw [hp]; rcases hr with h | h <;> rw [h] <;> decide
  · rw [hp]; rcases hr with h | h <;> rw [h] <;> decide
set_option maxRecDepth 100000 in
set_option maxHeartbeats 8000000 in
theorem small10 (r l s p h : Int) (key : Nat) (w : World) : Calls Tryz.prog 9 #[.agg #[.int .i64 r, .int .i64 l, .int .i64 s, .int .i64 p, .int .i64 h, .int .u64 (key : Int)]] w fun e w' => e = .returned (.tuple #[cfgV (smC r s p key), .int .i64 (smL h)]) ∧ Gr [] w w' := by
  have hmx := max0 Tryz.prog
  have h0 := mx_nonneg r
  have h2 := mx_nonneg s
  have h3 := mx_nonneg p
  have h4 := mx_nonneg h
  obtain ⟨r1, e1⟩ : ∃ x, x = mx r % 2 := ⟨_, rfl⟩
  obtain ⟨s1, e3⟩ : ∃ x, x = mx s % 4 := ⟨_, rfl⟩
  obtain ⟨p1, e4⟩ : ∃ x, x = mx p % 4 := ⟨_, rfl⟩
  obtain ⟨h1, e5⟩ : ∃ x, x = mx h % 5 := ⟨_, rfl⟩
  have u1 : (mx r).tmod 2 = mx r % 2 := Int.tmod_eq_emod_of_nonneg h0
  have u3 : (mx s).tmod 4 = mx s % 4 := Int.tmod_eq_emod_of_nonneg h2
  have u4 : (mx p).tmod 4 = mx p % 4 := Int.tmod_eq_emod_of_nonneg h3
  have u5 : (mx h).tmod 5 = mx h % 5 := Int.tmod_eq_emod_of_nonneg h4
  have b0 : IntKind.i64.wrap (mx r % 2) = mx r % 2 := IntWalk.i64_in _ (by omega)
  have b2 : IntKind.i64.wrap (mx s % 4) = mx s % 4 := IntWalk.i64_in _ (by omega)
  have b3 : IntKind.i64.wrap (mx p % 4) = mx p % 4 := IntWalk.i64_in _ (by omega)
  have b6 : IntKind.i64.wrap (mx h % 5) = mx h % 5 := IntWalk.i64_in _ (by omega)
  have b1 : IntKind.i64.wrap (2 + mx r % 2) = 2 + mx r % 2 := IntWalk.i64_in _ (by omega)
  have b4 : IntKind.i64.wrap (1 + mx p % 4) = 1 + mx p % 4 := IntWalk.i64_in _ (by omega)
  have b5 : IntKind.i64.wrap (1 + mx h % 5) = 1 + mx h % 5 := IntWalk.i64_in _ (by omega)
  have hb1 := (Holds.new w #[.int .i64 r, .int .i64 l, .int .i64 s, .int .i64 p, .int .i64 h, .int .u64 (key : Int)] 24).alloc (Obj.cells #[.int .i64 0, .int .i64 0, .int .i64 0, .int .i64 0, .int .u64 0] 27)
  have hb2 := Holds.new (w.alloc (Obj.cells #[.int .i64 r, .int .i64 l, .int .i64 s, .int .i64 p, .int .i64 h, .int .u64 (key : Int)] 24)) #[.int .i64 0, .int .i64 0, .int .i64 0, .int .i64 0, .int .u64 0] 27
  rw [World.size_alloc] at hb2
  have hg := ((Gr.refl [] w).alloc (Obj.cells #[.int .i64 r, .int .i64 l, .int .i64 s, .int .i64 p, .int .i64 h, .int .u64 (key : Int)] 24)).alloc (Obj.cells #[.int .i64 0, .int .i64 0, .int .i64 0, .int .i64 0, .int .u64 0] 27)
  have H := Lib.hid (And.intro hb1 (And.intro hb2 hg))
  unfold cfgV smC smL
  clear hb1 hb2 hg e1 e3 e4 e5
  go_enter Tryz.func9, Tryz.ntmps9
  go_upto_region 1 with fail
  generalize (w.alloc (Obj.cells #[.int .i64 r, .int .i64 l, .int .i64 s, .int .i64 p, .int .i64 h, .int .u64 (key : Int)] 24)).alloc (Obj.cells #[.int .i64 0, .int .i64 0, .int .i64 0, .int .i64 0, .int .u64 0] 27) = w1 at *
  obtain ⟨b, hb⟩ : ∃ b, w.heap.size = b := ⟨_, rfl⟩
  have HW := Lib.hid (show w.heap.size ≤ b by omega)
  rw [hb] at H ⊢
  clear hb
  have c0 : w1.cell? ⟨b, 0, none⟩ = some (.int .i64 r) := H.out.1.cell 0
  have c1 : w1.cell? ⟨b, 1, none⟩ = some (.int .i64 l) := H.out.1.cell 1
  have c2 : w1.cell? ⟨b, 2, none⟩ = some (.int .i64 s) := H.out.1.cell 2
  have c3 : w1.cell? ⟨b, 3, none⟩ = some (.int .i64 p) := H.out.1.cell 3
  have c4 : w1.cell? ⟨b, 4, none⟩ = some (.int .i64 h) := H.out.1.cell 4
  have c5 : w1.cell? ⟨b, 5, none⟩ = some (.int .u64 (key : Int)) := H.out.1.cell 5
  obtain ⟨b2', hb2'⟩ : ∃ b2', b + 1 = b2' := ⟨_, rfl⟩
  have HW2 := Lib.hid (show w.heap.size ≤ b2' by have := HW.out; omega)
  have hn1 : b ≠ b2' := by omega
  have hn2 : b2' ≠ b := by omega
  rw [hb2'] at H ⊢
  clear hb2'
  have d0 : w1.cell? ⟨b2', 0, none⟩ = some (.int .i64 0) := H.out.2.1.cell 0
  have d1 : w1.cell? ⟨b2', 1, none⟩ = some (.int .i64 0) := H.out.2.1.cell 1
  have d2 : w1.cell? ⟨b2', 2, none⟩ = some (.int .i64 0) := H.out.2.1.cell 2
  have d3 : w1.cell? ⟨b2', 3, none⟩ = some (.int .i64 0) := H.out.2.1.cell 3
  have d4 : w1.cell? ⟨b2', 4, none⟩ = some (.int .u64 0) := H.out.2.1.cell 4
  have f0 := H.out.2.1.frozen 0
  have f1 := H.out.2.1.frozen 1
  have f2 := H.out.2.1.frozen 2
  have f3 := H.out.2.1.frozen 3
  have f4 := H.out.2.1.frozen 4
  have HF := Lib.hid (((((H.out.2.2.setCell (p := ⟨b2', 0, none⟩) (.inr HW2.out) (.int .i64 (2 + mx r % 2))).setCell (p := ⟨b2', 1, none⟩) (.inr HW2.out) (.int .i64 16)).setCell (p := ⟨b2', 2, none⟩) (.inr HW2.out) (.int .i64 (mx s % 4))).setCell (p := ⟨b2', 3, none⟩) (.inr HW2.out) (.int .i64 (1 + mx p % 4))).setCell (p := ⟨b2', 4, none⟩) (.inr HW2.out) (.int .u64 (key : Int)))
  go_region
  all_goals go_wp2_with fail
  exact bodyPost_ret (v := .tuple #[.agg #[.int .i64 (2 + mx r % 2), .int .i64 16, .int .i64 (mx s % 4), .int .i64 (1 + mx p % 4), .int .u64 (key : Int)], .int .i64 (1 + mx h % 5)]) (by simp [results, Tryz.results9, go_sem, *]) rfl ⟨rfl, by first | exact HF.out | exact HF.out.drew⟩
/-- Pages at work behind n writes at most. -/
def HQ (C : CfgZ) (X : HtA) (A : FlA) (a : DevA) (lim : Nat) (Y : Nat → Nat → Nat → Nat) (n : Nat) (w : World) : Prop := HL C X A a lim Y (300000 + 42000 * n) w
section
variable {w w' : World} {X : HtA} {A : FlA} {a : DevA} {C : CfgZ} {Y : Nat → Nat → Nat → Nat} {lim n m : Nat}
theorem HQ.gr {bs : List Nat} (h : HQ C X A a lim Y n w) (k : Gr bs w w') (hn : ∀ x ∈ X.all ++ (A.all (cR C) ++ a.all), x ∉ bs) : HQ C X A a lim Y n w' := HL.gr h k hn
theorem HQ.gr0 (h : HQ C X A a lim Y n w) (k : Gr [] w w') : HQ C X A a lim Y n w' := HL.gr0 h k
theorem HQ.put (h : HQ C X A a lim Y n w) (hn : n < 2000) (g k : Int) (s : ByteArray) (hs : s.size = 64) :
    Calls Tryz.prog 20 #[.pointer (some ⟨X.pb, 0, none⟩), .int .i64 g, .int .i64 k, .string s] w fun e w' => e = .returned (.int .i64 (errH C g k)) ∧ HQ C X A a lim (putY C Y g k s) (n + 1) w' ∧ Gr (X.all ++ (A.all (cR C) ++ a.all)) w w' := by
  refine (HL.put h (by omega) g k s hs).mono ?_
  rintro e w2 ⟨rfl, q, g2⟩
  exact ⟨rfl, q.more (by omega), g2⟩
theorem HQ.len (h : HQ C X A a lim Y n w) : Calls Tryz.prog 19 #[.pointer (some ⟨X.pb, 0, none⟩)] w fun e w' => e = .returned (.int .i64 (pgC C : Int)) ∧ w' = w := by
  obtain ⟨l1, l2, F, V, c, S, h1, h2⟩ := h
  exact hlen_any h1
/-- Opened on a device that Make left. -/
theorem HQ.begin {V : FlV} {D : DevS} {B : Nat → BkS} {j : Nat → Nat} (hC : OkC C) (hp : 0 < pgC C) (hp2 : pgC C ≤ 2) (hf : FlD C true (mkF C (pgC C)) V (200000 + 4200 * pgC C) D B j) (hd : DevIs w a D) (hl : 1 ≤ lim) (hl2 : lim < 1000000) :
    Calls Tryz.prog 17 #[.pointer (some ⟨a.bd, 0, none⟩), .int .i64 (lim : Int)] w fun e w' => ∃ (X : HtA) (A : FlA), e = .returned (.tuple #[.pointer (some ⟨X.pb, 0, none⟩), .int .i64 0]) ∧ HQ C X A a lim (fun _ _ _ => 0) 0 w' ∧ (∀ x ∈ X.all ++ A.all (cR C), w.heap.size ≤ x) ∧ Gr [] w w' := by
  have n := pg_nums hC hp
  refine (hopen_any (lim := lim) hC hf hd (by omega) hp (mkF_tb hC hp) (fun _ _ => Nat.zero_le _) hl hl2).mono ?_
  rintro e w2 ⟨X, A, tk, rfl, q, nn, gr⟩
  refine ⟨X, A, rfl, ⟨hl, hl2, _, _, _, _, q.more (by omega), fun g k m hg hk hm => ?_⟩, nn, gr⟩
  exact mkF_zero n.2.2.2.2.1 (by show 8 * tbC C ≤ 8 * (tbC C + g) + k; omega)
end
end Go.Proofs.YtefmbchebobceaaGreat
