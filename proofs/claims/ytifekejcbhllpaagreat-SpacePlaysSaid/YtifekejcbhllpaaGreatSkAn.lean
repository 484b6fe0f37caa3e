/-
  SkAn: SpAa, SpG, SpH, SpI, SpS, SpT, CrcPure2.
-/
import Derived.Test.YtifekejcbhllpaaGreatSkAl
import Derived.Test.YtifekejcbhllpaaGreatSkAi
import Derived.Test.YtifekejcbhllpaaGreatSkAk
import Derived.Deep.CutBlock

set_option linter.unusedVariables false

/-
  Layer 5: a Put or PutWord on a device that may have a fuse: done whole, or cut before its fence.
-/
namespace Go.Proofs.YtifekejcbhllpaaGreat
open Go.RowKit
set_option linter.unusedVariables false

structure Live (D : DevS) : Prop where
  off : D.off = false
  buf : ∀ z, D.buf z = none
structure StoL (D D' : DevS) (B i : Nat) (f : Nat → Nat) : Prop where
  n : D'.n = D.n
  off : D'.off = false
  bad : D'.bad = D.bad
  med : D'.med = D.med
  buf : ∀ z : Int, D'.buf z = if (B : Int) ≤ z ∧ z < (B : Int) + i then some (f (z - B).toNat, false) else none
/-- Done whole. -/
structure Whole (D E : DevS) (l B m : Nat) (f : Nat → Nat) : Prop where
  live : Live E
  n : E.n = D.n
  bad : E.bad = D.bad
  med : ∀ x, E.med x = if B ≤ x ∧ x < B + m ∧ D.bad l = false then f (x - B) else D.med x
/-- Cut: nothing lasts yet, some of it is pending. -/
structure Torn (D E : DevS) (B m : Nat) (f : Nat → Nat) : Prop where
  off : E.off = true
  n : E.n = D.n
  bad : E.bad = D.bad
  med : E.med = D.med
  pend : ∀ z v, E.buf z = some v → ∃ j, j < m ∧ z = ((B + j : Nat) : Int) ∧ v.1 = f j
theorem StoL.torn {D D' : DevS} {B i m : Nat} {f : Nat → Nat} (h : StoL D D' B i f) (hi : i ≤ m) : Torn D { D' with fuse := 0, off := true } B m f :=
  ⟨rfl, h.n, h.bad, h.med, fun z v hz => by
    have hz2 : D'.buf z = some v := hz
    rw [h.buf z] at hz2
    split at hz2
    · rename_i c
      injection hz2 with hz2
      exact ⟨(z - B).toNat, by omega, by omega, by rw [← hz2]⟩
    · cases hz2⟩
theorem stos_any (D : DevS) (l k m : Nat) (f : Nat → Nat) (hl : l < D.n) (hk : k + m ≤ 8) : ∀ (r i : Nat) (D' : DevS), i + r = m → StoL D D' (8 * l + k) i f →
    (∃ E, stos l k f r i D' = (0, E) ∧ Whole D E l (8 * l + k) m f) ∨ (∃ E, stos l k f r i D' = (6, E) ∧ Torn D E (8 * l + k) m f)
  | 0, i, D', hi, h => by
    obtain rfl : i = m := by omega
    unfold stos finS
    rcases op_cases (D := D') (t := isLine D' (l : Int)) h.off (by unfold isLine; rw [decide_eq_true_eq, h.n]; omega) with ⟨h1, h2⟩ | ⟨h1, h2⟩
    · rw [h1, if_neg (by omega), h2]
      exact .inr ⟨_, rfl, h.torn (Nat.le_refl _)⟩
    · rw [h1, if_pos rfl, h2]
      obtain ⟨D2, hD2⟩ : ∃ D2, D2 = flushF (l : Int) (lit D') := ⟨_, rfl⟩
      rw [← hD2]
      have o2 : D2.off = false := by rw [hD2]; exact h.off
      have b2 : ∀ z : Int, D2.buf z = if ((8 * l + k : Nat) : Int) ≤ z ∧ z < ((8 * l + k : Nat) : Int) + i then some (f (z - ((8 * l + k : Nat) : Int)).toNat, true) else none := fun z => by
        rw [hD2]
        show flF D'.buf ((l : Int).toNat) 8 z = _
        rw [Int.toNat_natCast]
        unfold flF
        rw [h.buf z]
        by_cases c : ((8 * l + k : Nat) : Int) ≤ z ∧ z < ((8 * l + k : Nat) : Int) + i
        · rw [if_pos c, if_pos c, if_pos (by omega)]; rfl
        · rw [if_neg c, if_neg c]; split <;> rfl
      have n2 : D2.n = D.n := by rw [hD2]; exact h.n
      have bd2 : D2.bad = D.bad := by rw [hD2]; exact h.bad
      have md2 : D2.med = D.med := by rw [hD2]; exact h.med
      rcases op_cases (D := D2) (t := true) o2 rfl with ⟨q1, q2⟩ | ⟨q1, q2⟩
      · rw [q1, q2]
        refine .inr ⟨_, rfl, rfl, n2, bd2, md2, fun z v hz => ?_⟩
        have hz2 : D2.buf z = some v := hz
        rw [b2 z] at hz2
        split at hz2
        · injection hz2 with hz2
          exact ⟨(z - ((8 * l + k : Nat) : Int)).toNat, by omega, by omega, by rw [← hz2]⟩
        · cases hz2
      · rw [q1, q2]
        obtain ⟨D3, hD3⟩ : ∃ D3, D3 = lit D2 := ⟨_, rfl⟩
        rw [← hD3]
        have b3 : D3.buf = D2.buf := by rw [hD3]; rfl
        have n3 : D3.n = D.n := by rw [hD3]; exact n2
        have bd3 : D3.bad = D.bad := by rw [hD3]; exact bd2
        have md3 : D3.med = D.med := by rw [hD3]; exact md2
        have o3 : D3.off = false := by rw [hD3]; exact o2
        have s3 : ∀ x : Nat, fluS D3 x = decide (8 * l + k ≤ x ∧ x < 8 * l + k + i) := fun x => by
          unfold fluS
          rw [b3, b2]
          by_cases c : 8 * l + k ≤ x ∧ x < 8 * l + k + i
          · rw [if_pos (by omega), decide_eq_true c]; rfl
          · rw [if_neg (by omega), decide_eq_false c]; rfl
        refine .inl ⟨fenceF D3, rfl, ⟨o3, fun z => ?_⟩, n3, bd3, fun x => ?_⟩
        · show perBuf D3 (fluS D3) z = none
          unfold perBuf
          rw [s3, b3, b2]
          by_cases c : ((8 * l + k : Nat) : Int) ≤ z ∧ z < ((8 * l + k : Nat) : Int) + i
          · rw [if_pos ⟨by omega, by rw [decide_eq_true_eq]; omega⟩]
          · rw [if_neg c]; split <;> rfl
        · show perMed D3 (fluS D3) x = _
          unfold perMed
          rw [s3, b3, b2, bd3, md3]
          by_cases c : 8 * l + k ≤ x ∧ x < 8 * l + k + i
          · rw [decide_eq_true c, if_pos (show ((8 * l + k : Nat) : Int) ≤ (x : Int) ∧ (x : Int) < ((8 * l + k : Nat) : Int) + i by omega), show x / 8 = l by omega]
            cases hbl : D.bad l with
            | true => rw [if_neg (by simp), if_neg (by simp)]
            | false =>
              rw [if_pos ⟨rfl, rfl⟩, if_pos ⟨c.1, c.2, rfl⟩]
              show f ((x : Int) - ((8 * l + k : Nat) : Int)).toNat = _
              congr 1
              omega
          · rw [decide_eq_false c, if_neg (by simp), if_neg (fun e => c ⟨e.1, e.2.1⟩)]
  | r + 1, i, D', hi, h => by
    unfold stos
    rcases op_cases (D := D') (t := isWord D' ((8 * l + k + i : Nat) : Int)) h.off (by unfold isWord; rw [decide_eq_true_eq, h.n]; omega) with ⟨h1, h2⟩ | ⟨h1, h2⟩
    · rw [h1, if_neg (by omega), h2]
      exact .inr ⟨_, rfl, h.torn (by omega)⟩
    · rw [h1, if_pos rfl, h2]
      refine stos_any D l k m f hl hk r (i + 1) _ (by omega) ⟨h.n, h.off, h.bad, h.med, fun z => ?_⟩
      show updZ D'.buf ((8 * l + k + i : Nat) : Int) (some (f i, false)) z = _
      unfold updZ
      by_cases e : z = ((8 * l + k + i : Nat) : Int)
      · subst e
        rw [if_pos rfl, if_pos (by omega)]
        congr 3
        omega
      · rw [if_neg e, h.buf z]
        by_cases c : ((8 * l + k : Nat) : Int) ≤ z ∧ z < ((8 * l + k : Nat) : Int) + i
        · rw [if_pos c, if_pos (by omega)]
        · rw [if_neg c, if_neg (by omega)]
theorem StoL.start {D : DevS} (h : Live D) (B : Nat) (f : Nat → Nat) : StoL D D B 0 f := ⟨rfl, h.off, rfl, rfl, fun z => by rw [if_neg (by omega)]; exact h.buf z⟩
theorem put_live {D : DevS} {l : Nat} {s : ByteArray} (h : Live D) (hl : l < D.n) (hs : s.size = 64) :
    (∃ E, putE D (l : Int) s = (0, E) ∧ Whole D E l (8 * l) 8 (wdL s.data.toList)) ∨ (∃ E, putE D (l : Int) s = (6, E) ∧ Torn D E (8 * l) 8 (wdL s.data.toList)) := by
  unfold putE
  rw [if_neg (by simp [hs]), if_pos (by unfold isLine; rw [decide_eq_true_eq]; omega), Int.toNat_natCast]
  exact stos_any D l 0 8 (wdL s.data.toList) hl (by omega) 8 0 D (by omega) (.start h _ _)
theorem putword_live {D : DevS} {l k v : Nat} (h : Live D) (hl : l < D.n) (hk : k < 8) :
    (∃ E, pwE D (l : Int) (k : Int) v = (0, E) ∧ Whole D E l (8 * l + k) 1 (fun _ => v)) ∨ (∃ E, pwE D (l : Int) (k : Int) v = (6, E) ∧ Torn D E (8 * l + k) 1 (fun _ => v)) := by
  unfold pwE
  rw [if_neg (by omega), if_pos (by unfold isLine; rw [decide_eq_true_eq]; omega), Int.toNat_natCast, Int.toNat_natCast]
  exact stos_any D l k 1 (fun _ => v) hl (by omega) 1 0 D (by omega) (.start h _ _)
end Go.Proofs.YtifekejcbhllpaaGreat

/-
  Layer 5: Format.
-/
namespace Go.Proofs.YtifekejcbhllpaaGreat
open Go.RowKit

def zeroT : ByteArray := ⟨(catL [0, 0, 0, 0, 0, 0, 0, 0]).toArray⟩
theorem zeroT_size : zeroT.size = 64 := by
  show (catL _).toArray.size = 64
  rw [List.size_toArray, catL_length]; rfl
theorem zeroT_word {k : Nat} (h : k < 8) : wdL zeroT.data.toList k = 0 := by
  rcases (show k = 0 ∨ k = 1 ∨ k = 2 ∨ k = 3 ∨ k = 4 ∨ k = 5 ∨ k = 6 ∨ k = 7 by omega) with rfl | rfl | rfl | rfl | rfl | rfl | rfl | rfl <;> decide +kernel
theorem check_ok {p : PlanZ} {n : Int} (h : checkZ p n = 0) : okZ p = true ∧ p.a + sizeZ p ≤ n := by
  unfold checkZ at h
  by_cases hp : okZ p = true
  · rw [if_pos hp] at h
    refine ⟨hp, ?_⟩
    by_cases hn : n < p.a + sizeZ p
    · rw [if_pos hn] at h; omega
    · omega
  · rw [if_neg hp] at h; omega
section
variable {w : World} {a : DevA} {D : DevS} {p : PlanZ} {c : Nat}
theorem linesK {W : World} (h : DevIs W a D) : Calls Tryz.prog 76 #[.pointer (some ⟨a.bd, 0, none⟩)] W fun e w' => e = .returned (.int .i64 D.n) ∧ Below W.heap.size W w' :=
  (lines_any a D W h).mono (by rintro e w' ⟨rfl, rfl⟩; exact ⟨rfl, Below.refl _ _⟩)
theorem DevIs.kp {W : World} (h : DevIs w a D) (x : Kp w W) : DevIs W a D := h.gr0 (Gr.ofBelow x)
end
end Go.Proofs.YtifekejcbhllpaaGreat

/-
  Layer 5: note.
-/
namespace Go.Proofs.YtifekejcbhllpaaGreat
open Go.RowKit

/-- What the table's word of a spare says. -/
def noteBad (p : PlanZ) (k v : Nat) (B : BkS) : Prop := guardN v ≠ v ∨ B.used < k ∨ low48 v = 0 ∨ (p.l < (low48 v : Int) ∧ low48 v ≠ 65535)
instance (p : PlanZ) (k v : Nat) (B : BkS) : Decidable (noteBad p k v B) := by unfold noteBad; infer_instance
def noteB (k v : Nat) (B : BkS) : BkS := ⟨B.used + 1, if low48 v = 65535 then B.wh else updZ B.wh ((low48 v : Int) - 1) (some k)⟩
def noteS (p : PlanZ) (k v : Nat) (B : BkS) : Int × BkS := if v = 0 then (0, B) else if noteBad p k v B then (5, B) else (0, noteB k v B)
theorem low48_lt (v : Nat) : low48 v < 281474976710656 := by unfold low48; omega
section
variable {w : World} {q : BkA} {a : DevA} {p : PlanZ} {B : BkS} {m : Nat}
theorem note_zero (k : Nat) : Calls Tryz.prog 144 #[.pointer (some ⟨q.b, 0, none⟩), .int .i64 (k : Int), .int .u64 0] w fun e w' => e = .returned (.int .i64 0) ∧ w' = w := by
  go_enter Tryz.func144, Tryz.ntmps144
  go_wp2_with fail
  go_ret
  exact ⟨rfl, rfl⟩
end
end Go.Proofs.YtifekejcbhllpaaGreat

/-
  Layer 5: Open.
-/
namespace Go.Proofs.YtifekejcbhllpaaGreat
open Go.RowKit

section
variable {w : World} {a : DevA} {D : DevS} {p : PlanZ} {c : Nat}
set_option maxRecDepth 100000 in
set_option maxHeartbeats 8000000 in
/-- A bank whose table is empty. -/
theorem open_zero (h : DevIs w a D) (ho : D.off = false) (hp : checkZ p (D.n : Int) = 0) (hz : ∀ k : Nat, (k : Int) < p.s → loadV D (8 * p.a.toNat + k) = 0) :
    Calls Tryz.prog 114 #[.pointer (some ⟨a.bd, 0, none⟩), planV p] w fun e w' => ∃ q : BkA, e = .returned (.tuple #[.pointer (some ⟨q.b, 0, none⟩), .int .i64 0]) ∧ BkIs w' q a p ⟨0, fun _ => none⟩ 0 ∧ (∀ b ∈ q.all, w.heap.size ≤ b) ∧ Gr [] w w' := by
  obtain ⟨hok, hsz⟩ := check_ok hp
  obtain ⟨h1, h2, h3, h4, h5, h6⟩ := (okZ_iff p).1 hok
  have hs : sizeZ p = tabZ p + p.l + p.s := by unfold sizeZ; rw [if_pos hok]
  have ht : 8 * tabZ p ≥ p.s := by unfold tabZ; omega
  obtain ⟨c0, c1, c2⟩ := plan_cells p w
  have HG := Lib.hid ((Gr.refl [] w).alloc (Obj.cells #[.int .i64 p.a, .int .i64 p.l, .int .i64 p.s] 117))
  obtain ⟨w1, hw1⟩ : ∃ w1, w1 = w.alloc (Obj.cells #[.int .i64 p.a, .int .i64 p.l, .int .i64 p.s] 117) := ⟨_, rfl⟩
  obtain ⟨pb, hpb⟩ : ∃ pb, pb = w.heap.size := ⟨_, rfl⟩
  rw [← hpb] at c0 c1 c2
  have HC := Lib.hid (fun W => show Calls Tryz.prog 79 #[.agg #[.int .i64 p.a, .int .i64 p.l, .int .i64 p.s], .int .i64 (D.n : Int)] W _ from check_any p (D.n : Int) W)
  rw [hp] at HC
  obtain ⟨aN, haN⟩ : ∃ aN : Nat, p.a = (aN : Int) := ⟨p.a.toNat, by omega⟩
  obtain ⟨S, hS⟩ : ∃ S : Nat, p.s = (S : Int) := ⟨p.s.toNat, by omega⟩
  have hnI : D.n ≤ 8192 := h.ok.hi
  have HLd := Lib.hid (fun (k : Nat) (hk : k < S) W (hW : DevIs W a D) => show Calls Tryz.prog 121 #[.pointer (some ⟨a.bd, 0, none⟩), .int .i64 (p.a * 8 + (k : Int))] W fun e w' => e = .returned (.tuple #[.int .u64 0, .int .i64 0]) ∧ Gr [] W w' by
    have r := load_ok a D (8 * aN + k) W hW ho (by omega)
    rw [show ((8 * aN + k : Nat) : Int) = p.a * 8 + (k : Int) by omega, show 8 * aN + k = 8 * p.a.toNat + k by omega, hz k (by omega)] at r
    exact r)
  have HMul := Lib.hid (show ∀ k : Nat, k < S → IntKind.i64.wrap (p.a * 8) = p.a * 8 ∧ IntKind.i64.wrap (p.a * 8 + (k : Int)) = p.a * 8 + (k : Int) from fun k hk => ⟨IntWalk.i64_in _ (by omega), IntWalk.i64_in _ (by omega)⟩)
  have HD := Lib.hid h
  have HS := Lib.hid hS
  have hS64 : S ≤ 64 := by omega
  have HO := Lib.hid (And.intro hok (show 0 ≤ p.s from h5))
  have HPB := Lib.hid (show w.heap.size ≤ pb ∧ pb < w1.heap.size by rw [hpb, hw1, World.size_alloc]; omega)
  clear h ho hp hz hok hsz h1 h2 h3 h4 h5 h6 hs ht hnI haN hS
  unfold planV
  go_enter Tryz.func114, Tryz.ntmps114
  go_wp2_with fail
  rw [← hw1] at c0 c1 c2 HG ⊢
  rw [← hpb]
  clear hw1 hpb
  have k0 := kp_cell c0
  have k1 := kp_cell c1
  have k2 := kp_cell c2
  have hne := kp_ne w1
  have HD1 := Lib.hid (HD.out.gr0 HG.out)
  refine wp_region_kp (by kernel_rfl) (by kernel_rfl) ?_
  repeat (go_big_quiet_step ((rename_i x; first | exact kp_call x (linesK (HD1.out.kp x.h)) | exact kp_call x (HC.out _))))
  with_reducible refine wpQuiet_nil ?_
  rintro _ ⟨y, rfl⟩
  have HG2 := Lib.hid (HG.out.nextB y.h)
  have HD2 := Lib.hid (HD1.out.kp y.h)
  have HP2 := Lib.hid (show pb < y.w.heap.size by have := y.h.size; have := HPB.out; omega)
  replace c0 := k0 y
  replace c1 := k1 y
  replace c2 := k2 y
  clear k0 k1 k2 hne HC HD1 HG
  generalize y.w = w2 at *
  clear y
  have hmm := @run_makeMap Tryz.prog
  go_upto_region 7 with fail
  have HQ : ∃ q : BkA, q.b = w2.heap.size + 1 ∧ BkIs ((w2.alloc (Obj.map #[] 0)).alloc (Obj.cells #[.pointer (some ⟨a.bd, 0, none⟩), .int .i64 p.a, .int .i64 p.l, .int .i64 p.s, .int .i64 0, .map (some w2.heap.size)] 175)) q a p ⟨0, fun _ => none⟩ 0 ∧ ∀ b ∈ q.all, w.heap.size ≤ b := by
    refine ⟨⟨w2.heap.size + 1, w2.heap.size⟩, rfl, ⟨?_, ?_, HO.out.1, HO.out.2, (fun x k e => by cases e), by show ¬ (w2.heap.size + 1 = w2.heap.size); omega, ?_⟩, ?_⟩
    · have := Holds.new (w2.alloc (Obj.map #[] 0)) #[.pointer (some ⟨a.bd, 0, none⟩), .int .i64 p.a, .int .i64 p.l, .int .i64 p.s, .int .i64 0, .map (some w2.heap.size)] 175
      rw [World.size_alloc] at this
      exact this
    · exact (MapZ.made w2).gr0 ((Gr.refl [] _).alloc _)
    · intro b hb q
      have := HD2.out.lt b q
      simp only [BkA.all, List.mem_cons, List.not_mem_nil, or_false] at hb
      omega
    · intro b hb
      have := HP2.out
      have := HPB.out
      simp only [BkA.all, List.mem_cons, List.not_mem_nil, or_false] at hb
      omega
  obtain ⟨q, hq, hbk, hqs⟩ := HQ
  have HG6 := Lib.hid ((HG2.out.alloc (Obj.map #[] 0)).alloc (Obj.cells #[.pointer (some ⟨a.bd, 0, none⟩), .int .i64 p.a, .int .i64 p.l, .int .i64 p.s, .int .i64 0, .map (some w2.heap.size)] 175))
  have hg6 : Gr [] w2 ((w2.alloc (Obj.map #[] 0)).alloc (Obj.cells #[.pointer (some ⟨a.bd, 0, none⟩), .int .i64 p.a, .int .i64 p.l, .int .i64 p.s, .int .i64 0, .map (some w2.heap.size)] 175)) := ((Gr.refl [] w2).alloc _).alloc _
  replace c0 := (hg6.cell0 (o := 0) HP2.out).trans c0
  replace c2 := (hg6.cell0 (o := 2) HP2.out).trans c2
  have HD6 := Lib.hid (HD2.out.gr0 hg6)
  have HP6 := Lib.hid (Nat.lt_of_lt_of_le HP2.out hg6.size)
  have HBK := Lib.hid (And.intro hbk hqs)
  rw [← hq]
  clear hq hbk hqs hg6 HG2 HD2 HP2 hmm c1
  generalize ((w2.alloc (Obj.map #[] 0)).alloc (Obj.cells #[.pointer (some ⟨a.bd, 0, none⟩), .int .i64 p.a, .int .i64 p.l, .int .i64 p.s, .int .i64 0, .map (some w2.heap.size)] 175)) = w6 at *
  go_wp2_with fail
  rw [HS.out]
  go_loopw [28] (fun k wr => ∃ j : Nat, j ≤ S ∧ k = .int .i64 j ∧ Gr [] w6 wr) (fun k _ => S - (intOf k).toNat)
  case atStart => exact ⟨0, by omega, rfl, Gr.refl _ _⟩
  case round =>
    obtain ⟨j, hj, rfl, g'⟩ := hrel
    have HH := Lib.hid g'
    have c0 := (g'.cell0 (o := 0) HP6.out).trans c0
    clear g'
    by_cases hjL : j < S
    · have ij : (j : Int) < (S : Int) := by omega
      obtain ⟨i1, i2⟩ := HMul.out j hjL
      have HLj := Lib.hid (HLd.out j hjL wr (HD6.out.gr0 HH.out))
      go_wp2_with fail
      refine HLj.out.mono ?_
      rintro e w7 ⟨rfl, g7⟩
      have HH7 := Lib.hid (HH.out.trans g7)
      clear g7
      go_wp2_with fail
      refine (note_zero j).mono ?_
      rintro e w8 ⟨rfl, rfl⟩
      go_wp2_with fail
      go_roundw
      case rel => exact ⟨j + 1, by omega, by go_num, HH7.out⟩
      case measure => simp [intOf]; omega
    · obtain rfl : j = S := by omega
      have ij : ¬ ((j : Int) < (j : Int)) := by omega
      go_wp2_with fail
      go_ret2
      exact ⟨q, rfl, HBK.out.1.gr0 HH.out, HBK.out.2, HG6.out.trans HH.out⟩
end
end Go.Proofs.YtifekejcbhllpaaGreat

/-
  Layer 5: note of an entry; Open of any table that is right.
-/
namespace Go.Proofs.YtifekejcbhllpaaGreat
open Go.RowKit
set_option linter.unusedVariables false

/-- r spares from the k-th on are still to be noted. -/
def openS (p : PlanZ) (D : DevS) : Nat → Nat → BkS → Int × BkS
  | 0, _, B => (0, B)
  | r + 1, k, B => if (noteS p k (loadV D (8 * p.a.toNat + k)) B).1 ≠ 0 then (5, B) else openS p D r (k + 1) (noteS p k (loadV D (8 * p.a.toNat + k)) B).2
section
variable {w : World} {q : BkA} {a : DevA} {p : PlanZ} {B : BkS} {m : Nat} {D : DevS}
set_option maxRecDepth 100000 in
set_option maxHeartbeats 8000000 in
theorem note_ok (k v : Nat) (h : BkIs w q a p B m) (h0 : v ≠ 0) (hv : v < 18446744073709551616) (hb : ¬ noteBad p k v B) (hk : (k : Int) < p.s) (hu : (B.used : Int) < p.s) (hm : m < 90000000) :
    Calls Tryz.prog 144 #[.pointer (some ⟨q.b, 0, none⟩), .int .i64 (k : Int), .int .u64 (v : Int)] w fun e w' => e = .returned (.int .i64 0) ∧ BkIs w' q a p (noteB k v B) (m + 1) ∧ Gr q.all w w' := by
  have d0 : ((v : Int) == 0) = false := by simpa using h0
  have H := Lib.hid h
  obtain ⟨h1, h2, h3, h4, h5, h6⟩ := (okZ_iff _).1 h.ok
  have i1 : IntKind.u64.wrap p.l = p.l := IntWalk.u64_in _ (by omega)
  have hg : guardN v = v := by
    by_cases c : guardN v = v
    · exact c
    · exact absurd (Or.inl c) hb
  have HGd := Lib.hid (guarded_yes v w hv hg)
  obtain ⟨n, hn⟩ : ∃ n, n = low48 v := ⟨_, rfl⟩
  have hnl : n < 281474976710656 := hn ▸ low48_lt v
  have u1 : ¬ ((B.used : Int) < (k : Int)) := by
    intro c
    exact hb (.inr (.inl (by omega)))
  have hz : n ≠ 0 := by
    intro c
    exact hb (.inr (.inr (.inl (by rw [← hn]; exact c))))
  have hlast : ¬ (p.l < (n : Int) ∧ n ≠ 65535) := by
    intro c
    exact hb (.inr (.inr (.inr (by rw [← hn]; exact c))))
  have hNB : noteB k v B = ⟨B.used + 1, if n = 65535 then B.wh else updZ B.wh ((n : Int) - 1) (some k)⟩ := by unfold noteB; rw [hn]
  have HNB := Lib.hid hNB
  rw [← hn] at HGd
  have z1 : ((n : Int) == 0) = false := by simpa using hz
  have i3 : IntKind.i64.wrap ((B.used : Int) + 1) = (B.used : Int) + 1 := IntWalk.i64_in _ (by omega)
  have i4 : IntKind.i64.wrap (n : Int) = (n : Int) := IntWalk.i64_in _ (by omega)
  have i5 : IntKind.i64.wrap ((n : Int) - 1) = (n : Int) - 1 := IntWalk.i64_in _ (by omega)
  have hwf : WfZ ((n : Int) - 1) := wfZ (by omega) (by omega)
  have HK := Lib.hid (And.intro hk hu)
  by_cases hd : n = 65535
  · subst hd
    have HM := Lib.hid (show noteB k v B = ⟨B.used + 1, B.wh⟩ by rw [HNB.out, if_pos rfl])
    clear hb hg hn h h0 hNB hlast hk hu hwf
    go_enter Tryz.func144, Tryz.ntmps144
    go_wp2_with fail
    refine HGd.out.mono ?_
    rintro e w1 ⟨rfl, hb1⟩
    have hbk := H.out.gr0 (Gr.ofBelow hb1)
    have HG1 := Lib.hid (Gr.ofBelow (cs := []) hb1)
    have c4 := hbk.c4
    have c2 := hbk.c2
    have c4f := hbk.head.frozen 4
    obtain ⟨hb7, g7⟩ := bk_used hbk HK.out.2
    have HB7 := Lib.hid (And.intro hb7 g7)
    clear hb1 hbk hb7 g7
    go_wp2_with fail
    go_ret
    rw [HM.out]
    exact ⟨rfl, HB7.out.1.moreN _ (by omega), (HG1.out.of0).trans (HB7.out.2.mono (fun b hb => by simp at hb; simp [BkA.all, hb]))⟩
  · have hle : (n : Int) ≤ p.l := by
      have : ¬ p.l < (n : Int) := fun c => hlast ⟨c, hd⟩
      omega
    have b3 : ((n : Int) != 65535) = true := by simp; omega
    have hle2 : ¬ (p.l < (n : Int)) := by omega
    have HM := Lib.hid (show noteB k v B = ⟨B.used + 1, updZ B.wh ((n : Int) - 1) (some k)⟩ by rw [HNB.out, if_neg hd])
    clear hb hg hn h h0 hNB hlast hk hu hd hle
    go_enter Tryz.func144, Tryz.ntmps144
    go_wp2_with fail
    refine HGd.out.mono ?_
    rintro e w1 ⟨rfl, hb1⟩
    have hbk := H.out.gr0 (Gr.ofBelow hb1)
    have HG1 := Lib.hid (Gr.ofBelow (cs := []) hb1)
    have c4 := hbk.c4
    have c2 := hbk.c2
    have c4f := hbk.head.frozen 4
    obtain ⟨hb7, g7⟩ := bk_used hbk HK.out.2
    have HB7 := Lib.hid (And.intro hb7 g7)
    obtain ⟨w8, hput, hM8, g8, hz8⟩ := hb7.map.put_runN (show m < maxLen by unfold maxLen; omega) hwf k
    have HB8 := Lib.hid (And.intro (bk_where hb7 hM8 g8 HK.out.1) g8)
    have d5 : (w1.setCell ⟨q.b, 4, none⟩ (.int .i64 ((B.used : Int) + 1))).cell? ⟨q.b, 5, none⟩ = some (.map (some q.bm)) := hb7.c5
    clear hb1 hbk hb7 g7 hM8 g8 hz8 hwf
    go_wp2_with fail
    go_ret
    rw [HM.out]
    exact ⟨rfl, HB8.out.1, ((HG1.out.of0).trans (HB7.out.2.mono (fun b hb => by simp at hb; simp [BkA.all, hb]))).trans (HB8.out.2.mono (fun b hb => by simp at hb; simp [BkA.all, hb]))⟩
end
end Go.Proofs.YtifekejcbhllpaaGreat

/-
  Layer 5: Open of any table that is right.
-/
namespace Go.Proofs.YtifekejcbhllpaaGreat
open Go.RowKit
set_option linter.unusedVariables false

section
variable {w : World} {a : DevA} {D : DevS} {p : PlanZ} {c : Nat} {B : BkS}
set_option maxRecDepth 100000 in
set_option maxHeartbeats 8000000 in
/-- A bank whose table is right. -/
theorem open_ok (h : DevIs w a D) (ho : D.off = false) (hp : checkZ p (D.n : Int) = 0) (hO : openS p D p.s.toNat 0 ⟨0, fun _ => none⟩ = (0, B)) :
    Calls Tryz.prog 114 #[.pointer (some ⟨a.bd, 0, none⟩), planV p] w fun e w' => ∃ q : BkA, e = .returned (.tuple #[.pointer (some ⟨q.b, 0, none⟩), .int .i64 0]) ∧ BkIs w' q a p B 64 ∧ (∀ b ∈ q.all, w.heap.size ≤ b) ∧ Gr [] w w' := by
  obtain ⟨hok, hsz⟩ := check_ok hp
  obtain ⟨h1, h2, h3, h4, h5, h6⟩ := (okZ_iff p).1 hok
  have hs : sizeZ p = tabZ p + p.l + p.s := by unfold sizeZ; rw [if_pos hok]
  have ht : 8 * tabZ p ≥ p.s := by unfold tabZ; omega
  obtain ⟨c0, c1, c2⟩ := plan_cells p w
  have HG := Lib.hid ((Gr.refl [] w).alloc (Obj.cells #[.int .i64 p.a, .int .i64 p.l, .int .i64 p.s] 117))
  obtain ⟨w1, hw1⟩ : ∃ w1, w1 = w.alloc (Obj.cells #[.int .i64 p.a, .int .i64 p.l, .int .i64 p.s] 117) := ⟨_, rfl⟩
  obtain ⟨pb, hpb⟩ : ∃ pb, pb = w.heap.size := ⟨_, rfl⟩
  rw [← hpb] at c0 c1 c2
  have HC := Lib.hid (fun W => show Calls Tryz.prog 79 #[.agg #[.int .i64 p.a, .int .i64 p.l, .int .i64 p.s], .int .i64 (D.n : Int)] W _ from check_any p (D.n : Int) W)
  rw [hp] at HC
  obtain ⟨aN, haN⟩ : ∃ aN : Nat, p.a = (aN : Int) := ⟨p.a.toNat, by omega⟩
  obtain ⟨S, hS⟩ : ∃ S : Nat, p.s = (S : Int) := ⟨p.s.toNat, by omega⟩
  have hnI : D.n ≤ 8192 := h.ok.hi
  have HLd := Lib.hid (fun (k : Nat) (hk : k < S) W (hW : DevIs W a D) => show Calls Tryz.prog 121 #[.pointer (some ⟨a.bd, 0, none⟩), .int .i64 (p.a * 8 + (k : Int))] W fun e w' => e = .returned (.tuple #[.int .u64 (loadV D (8 * p.a.toNat + k) : Int), .int .i64 0]) ∧ Gr [] W w' by
    have r := load_ok a D (8 * aN + k) W hW ho (by omega)
    rw [show ((8 * aN + k : Nat) : Int) = p.a * 8 + (k : Int) by omega, show 8 * aN + k = 8 * p.a.toNat + k by omega] at r
    exact r)
  have HLV := Lib.hid (fun i => loadV_lt h.ok i)
  rw [show p.s.toNat = S by omega] at hO
  have HOO := Lib.hid hO
  have HMul := Lib.hid (show ∀ k : Nat, k < S → IntKind.i64.wrap (p.a * 8) = p.a * 8 ∧ IntKind.i64.wrap (p.a * 8 + (k : Int)) = p.a * 8 + (k : Int) from fun k hk => ⟨IntWalk.i64_in _ (by omega), IntWalk.i64_in _ (by omega)⟩)
  have HD := Lib.hid h
  have HS := Lib.hid hS
  have hS64 : S ≤ 64 := by omega
  have HO := Lib.hid (And.intro hok (show 0 ≤ p.s from h5))
  have HPB := Lib.hid (show w.heap.size ≤ pb ∧ pb < w1.heap.size by rw [hpb, hw1, World.size_alloc]; omega)
  clear h ho hp hO hok hsz h1 h2 h3 h4 h5 h6 hs ht hnI haN hS
  unfold planV
  go_enter Tryz.func114, Tryz.ntmps114
  go_wp2_with fail
  rw [← hw1] at c0 c1 c2 HG ⊢
  rw [← hpb]
  clear hw1 hpb
  have k0 := kp_cell c0
  have k1 := kp_cell c1
  have k2 := kp_cell c2
  have hne := kp_ne w1
  have HD1 := Lib.hid (HD.out.gr0 HG.out)
  refine wp_region_kp (by kernel_rfl) (by kernel_rfl) ?_
  repeat (go_big_quiet_step ((rename_i x; first | exact kp_call x (linesK (HD1.out.kp x.h)) | exact kp_call x (HC.out _))))
  with_reducible refine wpQuiet_nil ?_
  rintro _ ⟨y, rfl⟩
  have HG2 := Lib.hid (HG.out.nextB y.h)
  have HD2 := Lib.hid (HD1.out.kp y.h)
  have HP2 := Lib.hid (show pb < y.w.heap.size by have := y.h.size; have := HPB.out; omega)
  replace c0 := k0 y
  replace c1 := k1 y
  replace c2 := k2 y
  clear k0 k1 k2 hne HC HD1 HG
  generalize y.w = w2 at *
  clear y
  have hmm := @run_makeMap Tryz.prog
  go_upto_region 7 with fail
  have HQ : ∃ q : BkA, q.b = w2.heap.size + 1 ∧ q.bm = w2.heap.size ∧ BkIs ((w2.alloc (Obj.map #[] 0)).alloc (Obj.cells #[.pointer (some ⟨a.bd, 0, none⟩), .int .i64 p.a, .int .i64 p.l, .int .i64 p.s, .int .i64 0, .map (some w2.heap.size)] 175)) q a p ⟨0, fun _ => none⟩ 0 ∧ ∀ b ∈ q.all, w.heap.size ≤ b := by
    refine ⟨⟨w2.heap.size + 1, w2.heap.size⟩, rfl, rfl, ⟨?_, ?_, HO.out.1, HO.out.2, (fun x k e => by cases e), by show ¬ (w2.heap.size + 1 = w2.heap.size); omega, ?_⟩, ?_⟩
    · have := Holds.new (w2.alloc (Obj.map #[] 0)) #[.pointer (some ⟨a.bd, 0, none⟩), .int .i64 p.a, .int .i64 p.l, .int .i64 p.s, .int .i64 0, .map (some w2.heap.size)] 175
      rw [World.size_alloc] at this
      exact this
    · exact (MapZ.made w2).gr0 ((Gr.refl [] _).alloc _)
    · intro b hb q
      have := HD2.out.lt b q
      simp only [BkA.all, List.mem_cons, List.not_mem_nil, or_false] at hb
      omega
    · intro b hb
      have := HP2.out
      have := HPB.out
      simp only [BkA.all, List.mem_cons, List.not_mem_nil, or_false] at hb
      omega
  obtain ⟨q, hq, hqm, hbk, hqs⟩ := HQ
  have HG6 := Lib.hid ((HG2.out.alloc (Obj.map #[] 0)).alloc (Obj.cells #[.pointer (some ⟨a.bd, 0, none⟩), .int .i64 p.a, .int .i64 p.l, .int .i64 p.s, .int .i64 0, .map (some w2.heap.size)] 175))
  have hg6 : Gr [] w2 ((w2.alloc (Obj.map #[] 0)).alloc (Obj.cells #[.pointer (some ⟨a.bd, 0, none⟩), .int .i64 p.a, .int .i64 p.l, .int .i64 p.s, .int .i64 0, .map (some w2.heap.size)] 175)) := ((Gr.refl [] w2).alloc _).alloc _
  replace c0 := (hg6.cell0 (o := 0) HP2.out).trans c0
  replace c2 := (hg6.cell0 (o := 2) HP2.out).trans c2
  have HD6 := Lib.hid (HD2.out.gr0 hg6)
  have HP6 := Lib.hid (Nat.lt_of_lt_of_le HP2.out hg6.size)
  have HBK := Lib.hid (And.intro hbk hqs)
  have HBP := Lib.hid (show ∀ b ∈ q.all, pb < b from fun b hb => by
    have h1 := HP2.out
    simp only [BkA.all, List.mem_cons, List.not_mem_nil, or_false] at hb
    have h2 := hqm
    omega)
  rw [← hq]
  clear hq hqm hbk hqs hg6 HG2 HD2 HP2 hmm c1
  generalize ((w2.alloc (Obj.map #[] 0)).alloc (Obj.cells #[.pointer (some ⟨a.bd, 0, none⟩), .int .i64 p.a, .int .i64 p.l, .int .i64 p.s, .int .i64 0, .map (some w2.heap.size)] 175)) = w6 at *
  go_wp2_with fail
  rw [HS.out]
  go_loopw [28] (fun k wr => ∃ (j : Nat) (Bj : BkS), j ≤ S ∧ k = .int .i64 j ∧ DevIs wr a D ∧ BkIs wr q a p Bj j ∧ Bj.used ≤ j ∧ openS p D (S - j) j Bj = (0, B) ∧ wr.cell? ⟨pb, 0, none⟩ = some (.int .i64 p.a) ∧ Gr q.all w6 wr) (fun k _ => S - (intOf k).toNat)
  case atStart => exact ⟨0, ⟨0, fun _ => none⟩, by omega, rfl, HD6.out, HBK.out.1, Nat.le_refl _, HOO.out, c0, Gr.refl _ _⟩
  case round =>
    obtain ⟨j, Bj, hj, rfl, r1, r2, r3, r4, c0', r5⟩ := hrel
    have HH := Lib.hid (And.intro r1 (And.intro r2 (And.intro r3 (And.intro r4 (And.intro c0' r5)))))
    clear r1 r2 r3 r4 r5 c0
    by_cases hjL : j < S
    · have ij : (j : Int) < (S : Int) := by omega
      obtain ⟨i1, i2⟩ := HMul.out j hjL
      have HLj := Lib.hid (HLd.out j hjL wr HH.out.1)
      have HO2 := HH.out.2.2.2.1
      rw [show S - j = (S - (j + 1)) + 1 by omega, openS] at HO2
      have hv := HLV.out (8 * p.a.toNat + j)
      obtain ⟨v, hvv⟩ : ∃ v, v = loadV D (8 * p.a.toNat + j) := ⟨_, rfl⟩
      rw [← hvv] at HO2 HLj hv
      clear hvv
      have hlt : pb < wr.heap.size := World.block_lt_of_cell? wr _ c0'
      have HLT := Lib.hid hlt
      by_cases hv0 : v = 0
      · subst hv0
        have HO3 := Lib.hid (show openS p D (S - (j + 1)) (j + 1) Bj = (0, B) from HO2)
        clear HO2 hv hlt
        go_wp2_with fail
        refine HLj.out.mono ?_
        rintro e w7 ⟨rfl, g7⟩
        have HG7 := Lib.hid g7
        clear g7
        go_wp2_with fail
        refine (note_zero j).mono ?_
        rintro e w8 ⟨rfl, rfl⟩
        go_wp2_with fail
        go_roundw
        case rel => exact ⟨j + 1, Bj, by omega, by go_num, HH.out.1.gr0 HG7.out, (HH.out.2.1.gr0 HG7.out).moreN _ (by omega), by have := HH.out.2.2.1; omega, HO3.out, (HG7.out.cell0 HLT.out).trans c0', HH.out.2.2.2.2.2.next0 HG7.out⟩
        case measure => simp [intOf]; omega
      · have hnb : ¬ noteBad p j v Bj := by
          intro c
          have hq : noteS p j v Bj = (5, Bj) := by unfold noteS; rw [if_neg hv0, if_pos c]
          rw [hq, if_pos (by simp)] at HO2
          cases HO2
        have hq : noteS p j v Bj = (0, noteB j v Bj) := by unfold noteS; rw [if_neg hv0, if_neg hnb]
        rw [hq, if_neg (by simp)] at HO2
        have HO3 := Lib.hid HO2
        have HNo := Lib.hid (fun W (hW : BkIs W q a p Bj j) => note_ok j v hW hv0 hv hnb (by have := HS.out; omega) (by have := HH.out.2.2.1; have := HS.out; omega) (by omega))
        clear HO2 hv hlt hnb hq hv0
        go_wp2_with fail
        refine HLj.out.mono ?_
        rintro e w7 ⟨rfl, g7⟩
        have HG7 := Lib.hid g7
        clear g7
        go_wp2_with fail
        refine (HNo.out _ (HH.out.2.1.gr0 HG7.out)).mono ?_
        rintro e w8 ⟨rfl, k8, g8⟩
        have H8 := Lib.hid (And.intro k8 g8)
        clear k8 g8
        go_wp2_with fail
        go_roundw
        case rel => exact ⟨j + 1, _, by omega, by go_num, (HH.out.1.gr0 HG7.out).gr H8.out.2 (fun b hb hq => H8.out.1.sep b hq hb), H8.out.1, by show Bj.used + 1 ≤ j + 1; have := HH.out.2.2.1; omega, HO3.out, (World.cell?_of_block (w := w7) (H8.out.2.block pb (Nat.lt_of_lt_of_le HLT.out HG7.out.size) (fun c => by have := HBP.out _ c; omega))).trans ((HG7.out.cell0 HLT.out).trans c0'), (HH.out.2.2.2.2.2.next0 HG7.out).trans H8.out.2⟩
        case measure => simp [intOf]; omega
    · obtain rfl : j = S := by omega
      have ij : ¬ ((j : Int) < (j : Int)) := by omega
      have hB : Bj = B := by
        have := HH.out.2.2.2.1
        rw [Nat.sub_self, openS] at this
        exact (Prod.mk.inj this).2
      subst hB
      go_wp2_with fail
      go_ret2
      exact ⟨q, rfl, HH.out.2.1.moreN _ (by omega), HBK.out.2, HG6.out.nextN HH.out.2.2.2.2.2 (fun x hx => .inr (HBK.out.2 x hx))⟩
end
end Go.Proofs.YtifekejcbhllpaaGreat

/-
  Plain lemmas on guarded words: one bit another one.
-/
namespace Go.Proofs.YtifekejcbhllpaaGreat
open Go.RowKit

theorem mod_eq_of_bits {a b k : Nat} (h : ∀ i, i < k → a.testBit i = b.testBit i) : a % 2 ^ k = b % 2 ^ k := by
  apply Nat.eq_of_testBit_eq
  intro i
  rw [Nat.testBit_mod_two_pow, Nat.testBit_mod_two_pow]
  by_cases c : i < k
  · simp [c, h i c]
  · simp [c]
theorem putL_eq_of_bits {a b k : Nat} (h : ∀ i, i < 8 * k → a.testBit i = b.testBit i) : putL a k = putL b k := by
  have e : a % 256 ^ k = b % 256 ^ k := by
    rw [← two_pow_8]; exact mod_eq_of_bits h
  rw [← putL_mod a k k (Nat.le_refl _), ← putL_mod b k k (Nat.le_refl _), e]
theorem guard_bit (n : Nat) (i : Nat) (hi : i < 64) : (guardN n).testBit i = if 48 ≤ i then (n16 (check n)).testBit (i - 48) else n.testBit i := by
  unfold guardN
  rw [withN_testBit _ _ _ _ (by unfold okF; omega)]
  have e1 : (48 : Int).toNat = 48 := rfl
  have e2 : (16 : Int).toNat = 16 := rfl
  rw [e1, e2]
  by_cases c : 48 ≤ i
  · rw [if_pos (by omega), if_pos c]
  · rw [if_neg (by omega), if_neg c]
theorem check_congr {a b : Nat} (h : putL a 6 = putL b 6) : check a = check b := by unfold check; rw [h]
end Go.Proofs.YtifekejcbhllpaaGreat
