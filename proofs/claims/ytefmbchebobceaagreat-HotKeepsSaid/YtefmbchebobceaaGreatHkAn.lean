/-
  HkAn: SpI, SpS, SpT, CrcPure2, SpU, SpAb.
-/
import Derived.Test.YtefmbchebobceaaGreatHkAm
import Derived.Test.YtefmbchebobceaaGreatHkAk
import Derived.Test.YtefmbchebobceaaGreatHkAe
import Derived.Deep.CutBlock
import Derived.Shelf.SlIterI.Nil
import Derived.Shelf.SortM.Plain
import Derived.Shelf.SortM.SortNone
import Derived.Ground.GgzProg
import Derived.Ground.SlgmProg

set_option linter.unusedVariables false

/-
  Layer 5: Open.
-/
namespace Go.Proofs.YtefmbchebobceaaGreat
open Go.RowKit

section
variable {w : World} {a : DevA} {D : DevS} {p : PlanZ} {c : Nat}
set_option maxRecDepth 100000 in
set_option maxHeartbeats 8000000 in
theorem open_zero (h : DevIs w a D) (ho : D.off = false) (hp : checkZ p (D.n : Int) = 0) (hz : ∀ k : Nat, (k : Int) < p.s → loadV D (8 * p.a.toNat + k) = 0) :
    Calls Tryz.prog 139 #[.pointer (some ⟨a.bd, 0, none⟩), planV p] w fun e w' => ∃ q : BkA, e = .returned (.tuple #[.pointer (some ⟨q.b, 0, none⟩), .int .i64 0]) ∧ BkIs w' q a p ⟨0, fun _ => none⟩ 0 ∧ (∀ b ∈ q.all, w.heap.size ≤ b) ∧ Gr [] w w' := by
  obtain ⟨hok, hsz⟩ := check_ok hp
  obtain ⟨h1, h2, h3, h4, h5, h6⟩ := (okZ_iff p).1 hok
  have hs : sizeZ p = tabZ p + p.l + p.s := by unfold sizeZ; rw [if_pos hok]
  have ht : 8 * tabZ p ≥ p.s := by unfold tabZ; omega
  obtain ⟨c0, c1, c2⟩ := plan_cells p w
  have HG := Lib.hid ((Gr.refl [] w).alloc (Obj.cells #[.int .i64 p.a, .int .i64 p.l, .int .i64 p.s] 153))
  obtain ⟨w1, hw1⟩ : ∃ w1, w1 = w.alloc (Obj.cells #[.int .i64 p.a, .int .i64 p.l, .int .i64 p.s] 153) := ⟨_, rfl⟩
  obtain ⟨pb, hpb⟩ : ∃ pb, pb = w.heap.size := ⟨_, rfl⟩
  rw [← hpb] at c0 c1 c2
  have HC := Lib.hid (fun W => show Calls Tryz.prog 133 #[.agg #[.int .i64 p.a, .int .i64 p.l, .int .i64 p.s], .int .i64 (D.n : Int)] W _ from check_any p (D.n : Int) W)
  rw [hp] at HC
  obtain ⟨aN, haN⟩ : ∃ aN : Nat, p.a = (aN : Int) := ⟨p.a.toNat, by omega⟩
  obtain ⟨S, hS⟩ : ∃ S : Nat, p.s = (S : Int) := ⟨p.s.toNat, by omega⟩
  have hnI : D.n ≤ 8192 := h.ok.hi
  have HLd := Lib.hid (fun (k : Nat) (hk : k < S) W (hW : DevIs W a D) => show Calls Tryz.prog 145 #[.pointer (some ⟨a.bd, 0, none⟩), .int .i64 (p.a * 8 + (k : Int))] W fun e w' => e = .returned (.tuple #[.int .u64 0, .int .i64 0]) ∧ Gr [] W w' by
    have r := load_ok a D (8 * aN + k) W hW ho (by omega)
    rw [show ((8 * aN + k : Nat) : Int) = p.a * 8 + (k : Int) by omega, show 8 * aN + k = 8 * p.a.toNat + k by omega, hz k (by omega)] at r
    exact r)
  have HMul := Lib.hid (show ∀ k : Nat, k < S → IntKind.i64.wrap (p.a * 8) = p.a * 8 ∧ IntKind.i64.wrap (p.a * 8 + (k : Int)) = p.a * 8 + (k : Int) from fun k hk => ⟨IntWalk.i64_in _ (by omega), IntWalk.i64_in _ (by omega)⟩)
  have HD := Lib.hid h
  have HS := Lib.hid hS
  have hS64 : S ≤ 64 := by omega
  have HO := Lib.hid (And.intro hok (show 0 ≤ p.s from h5))
  have HPB := Lib.hid (show w.heap.size ≤ pb ∧ pb < w1.heap.size by rw [hpb, hw1, World.size_alloc]; omega)
  clear h ho hp hz hok hsz h1 h2 h3 h4 h5 h6 hs ht hnI haN hS
  unfold planV
  go_enter Tryz.func139, Tryz.ntmps139
  go_wp2_with fail
  rw [← hw1] at c0 c1 c2 HG ⊢
  rw [← hpb]
  clear hw1 hpb
  have k0 := kp_cell c0
  have k1 := kp_cell c1
  have k2 := kp_cell c2
  have hne := kp_ne w1
  have HD1 := Lib.hid (HD.out.gr0 HG.out)
  refine wp_region_kp (by kernel_rfl) (by kernel_rfl) ?_
  repeat (go_big_quiet_step ((rename_i x; first | exact kp_call x (linesK (HD1.out.kp x.h)) | exact kp_call x (HC.out _))))
  with_reducible refine wpQuiet_nil ?_
  rintro _ ⟨y, rfl⟩
  have HG2 := Lib.hid (HG.out.nextB y.h)
  have HD2 := Lib.hid (HD1.out.kp y.h)
  have HP2 := Lib.hid (show pb < y.w.heap.size by have := y.h.size; have := HPB.out; omega)
  replace c0 := k0 y
  replace c1 := k1 y
  replace c2 := k2 y
  clear k0 k1 k2 hne HC HD1 HG
  generalize y.w = w2 at *
  clear y
  have hmm := @run_makeMap Tryz.prog
  go_upto_region 7 with fail
  have HQ : ∃ q : BkA, q.b = w2.heap.size + 1 ∧ BkIs ((w2.alloc (Obj.map #[] 0)).alloc (Obj.cells #[.pointer (some ⟨a.bd, 0, none⟩), .int .i64 p.a, .int .i64 p.l, .int .i64 p.s, .int .i64 0, .map (some w2.heap.size)] 262)) q a p ⟨0, fun _ => none⟩ 0 ∧ ∀ b ∈ q.all, w.heap.size ≤ b := by
    refine ⟨⟨w2.heap.size + 1, w2.heap.size⟩, rfl, ⟨?_, ?_, HO.out.1, HO.out.2, (fun x k e => by cases e), by show ¬ (w2.heap.size + 1 = w2.heap.size); omega, ?_⟩, ?_⟩
    · have := Holds.new (w2.alloc (Obj.map #[] 0)) #[.pointer (some ⟨a.bd, 0, none⟩), .int .i64 p.a, .int .i64 p.l, .int .i64 p.s, .int .i64 0, .map (some w2.heap.size)] 262
      rw [World.size_alloc] at this
      exact this
    · exact (MapZ.made w2).gr0 ((Gr.refl [] _).alloc _)
    · intro b hb q
      have := HD2.out.lt b q
      simp only [BkA.all, List.mem_cons, List.not_mem_nil, or_false] at hb
      omega
    · intro b hb
      have := HP2.out
      have := HPB.out
      simp only [BkA.all, List.mem_cons, List.not_mem_nil, or_false] at hb
      omega
  obtain ⟨q, hq, hbk, hqs⟩ := HQ
  have HG6 := Lib.hid ((HG2.out.alloc (Obj.map #[] 0)).alloc (Obj.cells #[.pointer (some ⟨a.bd, 0, none⟩), .int .i64 p.a, .int .i64 p.l, .int .i64 p.s, .int .i64 0, .map (some w2.heap.size)] 262))
  have hg6 : Gr [] w2 ((w2.alloc (Obj.map #[] 0)).alloc (Obj.cells #[.pointer (some ⟨a.bd, 0, none⟩), .int .i64 p.a, .int .i64 p.l, .int .i64 p.s, .int .i64 0, .map (some w2.heap.size)] 262)) := ((Gr.refl [] w2).alloc _).alloc _
  replace c0 := (hg6.cell0 (o := 0) HP2.out).trans c0
  replace c2 := (hg6.cell0 (o := 2) HP2.out).trans c2
  have HD6 := Lib.hid (HD2.out.gr0 hg6)
  have HP6 := Lib.hid (Nat.lt_of_lt_of_le HP2.out hg6.size)
  have HBK := Lib.hid (And.intro hbk hqs)
  rw [← hq]
  clear hq hbk hqs hg6 HG2 HD2 HP2 hmm c1
  generalize ((w2.alloc (Obj.map #[] 0)).alloc (Obj.cells #[.pointer (some ⟨a.bd, 0, none⟩), .int .i64 p.a, .int .i64 p.l, .int .i64 p.s, .int .i64 0, .map (some w2.heap.size)] 262)) = w6 at *
  go_wp2_with fail
  rw [HS.out]
  go_loopw [28] (fun k wr => ∃ j : Nat, j ≤ S ∧ k = .int .i64 j ∧ Gr [] w6 wr) (fun k _ => S - (intOf k).toNat)
  case atStart => exact ⟨0, by omega, rfl, Gr.refl _ _⟩
  case round =>
    obtain ⟨j, hj, rfl, g'⟩ := hrel
    have HH := Lib.hid g'
    have c0 := (g'.cell0 (o := 0) HP6.out).trans c0
    clear g'
    by_cases hjL : j < S
    · have ij : (j : Int) < (S : Int) := by omega
      obtain ⟨i1, i2⟩ := HMul.out j hjL
      have HLj := Lib.hid (HLd.out j hjL wr (HD6.out.gr0 HH.out))
      go_wp2_with fail
      refine HLj.out.mono ?_
      rintro e w7 ⟨rfl, g7⟩
      have HH7 := Lib.hid (HH.out.trans g7)
      clear g7
      go_wp2_with fail
      refine (note_zero j).mono ?_
      rintro e w8 ⟨rfl, rfl⟩
      go_wp2_with fail
      go_roundw
      case rel => exact ⟨j + 1, by omega, by go_num, HH7.out⟩
      case measure => simp [intOf]; omega
    · obtain rfl : j = S := by omega
      have ij : ¬ ((j : Int) < (j : Int)) := by omega
      go_wp2_with fail
      go_ret2
      exact ⟨q, rfl, HBK.out.1.gr0 HH.out, HBK.out.2, HG6.out.trans HH.out⟩
end
end Go.Proofs.YtefmbchebobceaaGreat

/-
  Layer 5: note of an entry; Open of any table that is right.
-/
namespace Go.Proofs.YtefmbchebobceaaGreat
open Go.RowKit
set_option linter.unusedVariables false

def openS (p : PlanZ) (D : DevS) : Nat → Nat → BkS → Int × BkS
  | 0, _, B => (0, B)
  | r + 1, k, B => if (noteS p k (loadV D (8 * p.a.toNat + k)) B).1 ≠ 0 then (5, B) else openS p D r (k + 1) (noteS p k (loadV D (8 * p.a.toNat + k)) B).2
section
variable {w : World} {q : BkA} {a : DevA} {p : PlanZ} {B : BkS} {m : Nat} {D : DevS}
set_option maxRecDepth 100000 in
set_option maxHeartbeats 8000000 in
theorem note_ok (k v : Nat) (h : BkIs w q a p B m) (h0 : v ≠ 0) (hv : v < 18446744073709551616) (hb : ¬ noteBad p k v B) (hk : (k : Int) < p.s) (hu : (B.used : Int) < p.s) (hm : m < 90000000) :
    Calls Tryz.prog 191 #[.pointer (some ⟨q.b, 0, none⟩), .int .i64 (k : Int), .int .u64 (v : Int)] w fun e w' => e = .returned (.int .i64 0) ∧ BkIs w' q a p (noteB k v B) (m + 1) ∧ Gr q.all w w' := by
  have d0 : ((v : Int) == 0) = false := by simpa using h0
  have H := Lib.hid h
  obtain ⟨h1, h2, h3, h4, h5, h6⟩ := (okZ_iff _).1 h.ok
  have i1 : IntKind.u64.wrap p.l = p.l := IntWalk.u64_in _ (by omega)
  have hg : guardN v = v := by
    by_cases c : guardN v = v
    · exact c
    · exact absurd (Or.inl c) hb
  have HGd := Lib.hid (guarded_yes v w hv hg)
  obtain ⟨n, hn⟩ : ∃ n, n = low48 v := ⟨_, rfl⟩
  have hnl : n < 281474976710656 := hn ▸ low48_lt v
  have u1 : ¬ ((B.used : Int) < (k : Int)) := by
    intro c
    exact hb (.inr (.inl (by omega)))
  have hz : n ≠ 0 := by
    intro c
    exact hb (.inr (.inr (.inl (by rw [← hn]; exact c))))
  have hlast : ¬ (p.l < (n : Int) ∧ n ≠ 65535) := by
    intro c
    exact hb (.inr (.inr (.inr (by rw [← hn]; exact c))))
  have hNB : noteB k v B = ⟨B.used + 1, if n = 65535 then B.wh else updZ B.wh ((n : Int) - 1) (some k)⟩ := by unfold noteB; rw [hn]
  have HNB := Lib.hid hNB
  rw [← hn] at HGd
  have z1 : ((n : Int) == 0) = false := by simpa using hz
  have i3 : IntKind.i64.wrap ((B.used : Int) + 1) = (B.used : Int) + 1 := IntWalk.i64_in _ (by omega)
  have i4 : IntKind.i64.wrap (n : Int) = (n : Int) := IntWalk.i64_in _ (by omega)
  have i5 : IntKind.i64.wrap ((n : Int) - 1) = (n : Int) - 1 := IntWalk.i64_in _ (by omega)
  have hwf : WfZ ((n : Int) - 1) := wfZ (by omega) (by omega)
  have HK := Lib.hid (And.intro hk hu)
  by_cases hd : n = 65535
  · subst hd
    have HM := Lib.hid (show noteB k v B = ⟨B.used + 1, B.wh⟩ by rw [HNB.out, if_pos rfl])
    clear hb hg hn h h0 hNB hlast hk hu hwf
    go_enter Tryz.func191, Tryz.ntmps191
    go_wp2_with fail
    refine HGd.out.mono ?_
    rintro e w1 ⟨rfl, hb1⟩
    have hbk := H.out.gr0 (Gr.ofBelow hb1)
    have HG1 := Lib.hid (Gr.ofBelow (cs := []) hb1)
    have c4 := hbk.c4
    have c2 := hbk.c2
    have c4f := hbk.head.frozen 4
    obtain ⟨hb7, g7⟩ := bk_used hbk HK.out.2
    have HB7 := Lib.hid (And.intro hb7 g7)
    clear hb1 hbk hb7 g7
    go_wp2_with fail
    go_ret
    rw [HM.out]
    exact ⟨rfl, HB7.out.1.moreN _ (by omega), (HG1.out.of0).trans (HB7.out.2.mono (fun b hb => by simp at hb; simp [BkA.all, hb]))⟩
  · have hle : (n : Int) ≤ p.l := by
      have : ¬ p.l < (n : Int) := fun c => hlast ⟨c, hd⟩
      omega
    have b3 : ((n : Int) != 65535) = true := by simp; omega
    have hle2 : ¬ (p.l < (n : Int)) := by omega
    have HM := Lib.hid (show noteB k v B = ⟨B.used + 1, updZ B.wh ((n : Int) - 1) (some k)⟩ by rw [HNB.out, if_neg hd])
    clear hb hg hn h h0 hNB hlast hk hu hd hle
    go_enter Tryz.func191, Tryz.ntmps191
    go_wp2_with fail
    refine HGd.out.mono ?_
    rintro e w1 ⟨rfl, hb1⟩
    have hbk := H.out.gr0 (Gr.ofBelow hb1)
    have HG1 := Lib.hid (Gr.ofBelow (cs := []) hb1)
    have c4 := hbk.c4
    have c2 := hbk.c2
    have c4f := hbk.head.frozen 4
    obtain ⟨hb7, g7⟩ := bk_used hbk HK.out.2
    have HB7 := Lib.hid (And.intro hb7 g7)
    obtain ⟨w8, hput, hM8, g8, hz8⟩ := hb7.map.put_runN (show m < maxLen by unfold maxLen; omega) hwf k
    have HB8 := Lib.hid (And.intro (bk_where hb7 hM8 g8 HK.out.1) g8)
    have d5 : (w1.setCell ⟨q.b, 4, none⟩ (.int .i64 ((B.used : Int) + 1))).cell? ⟨q.b, 5, none⟩ = some (.map (some q.bm)) := hb7.c5
    clear hb1 hbk hb7 g7 hM8 g8 hz8 hwf
    go_wp2_with fail
    go_ret
    rw [HM.out]
    exact ⟨rfl, HB8.out.1, ((HG1.out.of0).trans (HB7.out.2.mono (fun b hb => by simp at hb; simp [BkA.all, hb]))).trans (HB8.out.2.mono (fun b hb => by simp at hb; simp [BkA.all, hb]))⟩
end
end Go.Proofs.YtefmbchebobceaaGreat

/-
  Layer 5: Open of any table that is right.
-/
namespace Go.Proofs.YtefmbchebobceaaGreat
open Go.RowKit
set_option linter.unusedVariables false

section
variable {w : World} {a : DevA} {D : DevS} {p : PlanZ} {c : Nat} {B : BkS}
set_option maxRecDepth 100000 in
set_option maxHeartbeats 8000000 in
theorem open_ok (h : DevIs w a D) (ho : D.off = false) (hp : checkZ p (D.n : Int) = 0) (hO : openS p D p.s.toNat 0 ⟨0, fun _ => none⟩ = (0, B)) :
    Calls Tryz.prog 139 #[.pointer (some ⟨a.bd, 0, none⟩), planV p] w fun e w' => ∃ q : BkA, e = .returned (.tuple #[.pointer (some ⟨q.b, 0, none⟩), .int .i64 0]) ∧ BkIs w' q a p B 64 ∧ (∀ b ∈ q.all, w.heap.size ≤ b) ∧ Gr [] w w' := by
  obtain ⟨hok, hsz⟩ := check_ok hp
  obtain ⟨h1, h2, h3, h4, h5, h6⟩ := (okZ_iff p).1 hok
  have hs : sizeZ p = tabZ p + p.l + p.s := by unfold sizeZ; rw [if_pos hok]
  have ht : 8 * tabZ p ≥ p.s := by unfold tabZ; omega
  obtain ⟨c0, c1, c2⟩ := plan_cells p w
  have HG := Lib.hid ((Gr.refl [] w).alloc (Obj.cells #[.int .i64 p.a, .int .i64 p.l, .int .i64 p.s] 153))
  obtain ⟨w1, hw1⟩ : ∃ w1, w1 = w.alloc (Obj.cells #[.int .i64 p.a, .int .i64 p.l, .int .i64 p.s] 153) := ⟨_, rfl⟩
  obtain ⟨pb, hpb⟩ : ∃ pb, pb = w.heap.size := ⟨_, rfl⟩
  rw [← hpb] at c0 c1 c2
  have HC := Lib.hid (fun W => show Calls Tryz.prog 133 #[.agg #[.int .i64 p.a, .int .i64 p.l, .int .i64 p.s], .int .i64 (D.n : Int)] W _ from check_any p (D.n : Int) W)
  rw [hp] at HC
  obtain ⟨aN, haN⟩ : ∃ aN : Nat, p.a = (aN : Int) := ⟨p.a.toNat, by omega⟩
  obtain ⟨S, hS⟩ : ∃ S : Nat, p.s = (S : Int) := ⟨p.s.toNat, by omega⟩
  have hnI : D.n ≤ 8192 := h.ok.hi
  have HLd := Lib.hid (fun (k : Nat) (hk : k < S) W (hW : DevIs W a D) => show Calls Tryz.prog 145 #[.pointer (some ⟨a.bd, 0, none⟩), .int .i64 (p.a * 8 + (k : Int))] W fun e w' => e = .returned (.tuple #[.int .u64 (loadV D (8 * p.a.toNat + k) : Int), .int .i64 0]) ∧ Gr [] W w' by
    have r := load_ok a D (8 * aN + k) W hW ho (by omega)
    rw [show ((8 * aN + k : Nat) : Int) = p.a * 8 + (k : Int) by omega, show 8 * aN + k = 8 * p.a.toNat + k by omega] at r
    exact r)
  have HLV := Lib.hid (fun i => loadV_lt h.ok i)
  rw [show p.s.toNat = S by omega] at hO
  have HOO := Lib.hid hO
  have HMul := Lib.hid (show ∀ k : Nat, k < S → IntKind.i64.wrap (p.a * 8) = p.a * 8 ∧ IntKind.i64.wrap (p.a * 8 + (k : Int)) = p.a * 8 + (k : Int) from fun k hk => ⟨IntWalk.i64_in _ (by omega), IntWalk.i64_in _ (by omega)⟩)
  have HD := Lib.hid h
  have HS := Lib.hid hS
  have hS64 : S ≤ 64 := by omega
  have HO := Lib.hid (And.intro hok (show 0 ≤ p.s from h5))
  have HPB := Lib.hid (show w.heap.size ≤ pb ∧ pb < w1.heap.size by rw [hpb, hw1, World.size_alloc]; omega)
  clear h ho hp hO hok hsz h1 h2 h3 h4 h5 h6 hs ht hnI haN hS
  unfold planV
  go_enter Tryz.func139, Tryz.ntmps139
  go_wp2_with fail
  rw [← hw1] at c0 c1 c2 HG ⊢
  rw [← hpb]
  clear hw1 hpb
  have k0 := kp_cell c0
  have k1 := kp_cell c1
  have k2 := kp_cell c2
  have hne := kp_ne w1
  have HD1 := Lib.hid (HD.out.gr0 HG.out)
  refine wp_region_kp (by kernel_rfl) (by kernel_rfl) ?_
  repeat (go_big_quiet_step ((rename_i x; first | exact kp_call x (linesK (HD1.out.kp x.h)) | exact kp_call x (HC.out _))))
  with_reducible refine wpQuiet_nil ?_
  rintro _ ⟨y, rfl⟩
  have HG2 := Lib.hid (HG.out.nextB y.h)
  have HD2 := Lib.hid (HD1.out.kp y.h)
  have HP2 := Lib.hid (show pb < y.w.heap.size by have := y.h.size; have := HPB.out; omega)
  replace c0 := k0 y
  replace c1 := k1 y
  replace c2 := k2 y
  clear k0 k1 k2 hne HC HD1 HG
  generalize y.w = w2 at *
  clear y
  have hmm := @run_makeMap Tryz.prog
  go_upto_region 7 with fail
  have HQ : ∃ q : BkA, q.b = w2.heap.size + 1 ∧ q.bm = w2.heap.size ∧ BkIs ((w2.alloc (Obj.map #[] 0)).alloc (Obj.cells #[.pointer (some ⟨a.bd, 0, none⟩), .int .i64 p.a, .int .i64 p.l, .int .i64 p.s, .int .i64 0, .map (some w2.heap.size)] 262)) q a p ⟨0, fun _ => none⟩ 0 ∧ ∀ b ∈ q.all, w.heap.size ≤ b := by
    refine ⟨⟨w2.heap.size + 1, w2.heap.size⟩, rfl, rfl, ⟨?_, ?_, HO.out.1, HO.out.2, (fun x k e => by cases e), by show ¬ (w2.heap.size + 1 = w2.heap.size); omega, ?_⟩, ?_⟩
    · have := Holds.new (w2.alloc (Obj.map #[] 0)) #[.pointer (some ⟨a.bd, 0, none⟩), .int .i64 p.a, .int .i64 p.l, .int .i64 p.s, .int .i64 0, .map (some w2.heap.size)] 262
      rw [World.size_alloc] at this
      exact this
    · exact (MapZ.made w2).gr0 ((Gr.refl [] _).alloc _)
    · intro b hb q
      have := HD2.out.lt b q
      simp only [BkA.all, List.mem_cons, List.not_mem_nil, or_false] at hb
      omega
    · intro b hb
      have := HP2.out
      have := HPB.out
      simp only [BkA.all, List.mem_cons, List.not_mem_nil, or_false] at hb
      omega
  obtain ⟨q, hq, hqm, hbk, hqs⟩ := HQ
  have HG6 := Lib.hid ((HG2.out.alloc (Obj.map #[] 0)).alloc (Obj.cells #[.pointer (some ⟨a.bd, 0, none⟩), .int .i64 p.a, .int .i64 p.l, .int .i64 p.s, .int .i64 0, .map (some w2.heap.size)] 262))
  have hg6 : Gr [] w2 ((w2.alloc (Obj.map #[] 0)).alloc (Obj.cells #[.pointer (some ⟨a.bd, 0, none⟩), .int .i64 p.a, .int .i64 p.l, .int .i64 p.s, .int .i64 0, .map (some w2.heap.size)] 262)) := ((Gr.refl [] w2).alloc _).alloc _
  replace c0 := (hg6.cell0 (o := 0) HP2.out).trans c0
  replace c2 := (hg6.cell0 (o := 2) HP2.out).trans c2
  have HD6 := Lib.hid (HD2.out.gr0 hg6)
  have HP6 := Lib.hid (Nat.lt_of_lt_of_le HP2.out hg6.size)
  have HBK := Lib.hid (And.intro hbk hqs)
  have HBP := Lib.hid (show ∀ b ∈ q.all, pb < b from fun b hb => by
    have h1 := HP2.out
    simp only [BkA.all, List.mem_cons, List.not_mem_nil, or_false] at hb
    have h2 := hqm
    omega)
  rw [← hq]
  clear hq hqm hbk hqs hg6 HG2 HD2 HP2 hmm c1
  generalize ((w2.alloc (Obj.map #[] 0)).alloc (Obj.cells #[.pointer (some ⟨a.bd, 0, none⟩), .int .i64 p.a, .int .i64 p.l, .int .i64 p.s, .int .i64 0, .map (some w2.heap.size)] 262)) = w6 at *
  go_wp2_with fail
  rw [HS.out]
  go_loopw [28] (fun k wr => ∃ (j : Nat) (Bj : BkS), j ≤ S ∧ k = .int .i64 j ∧ DevIs wr a D ∧ BkIs wr q a p Bj j ∧ Bj.used ≤ j ∧ openS p D (S - j) j Bj = (0, B) ∧ wr.cell? ⟨pb, 0, none⟩ = some (.int .i64 p.a) ∧ Gr q.all w6 wr) (fun k _ => S - (intOf k).toNat)
  case atStart => exact ⟨0, ⟨0, fun _ => none⟩, by omega, rfl, HD6.out, HBK.out.1, Nat.le_refl _, HOO.out, c0, Gr.refl _ _⟩
  case round =>
    obtain ⟨j, Bj, hj, rfl, r1, r2, r3, r4, c0', r5⟩ := hrel
    have HH := Lib.hid (And.intro r1 (And.intro r2 (And.intro r3 (And.intro r4 (And.intro c0' r5)))))
    clear r1 r2 r3 r4 r5 c0
    by_cases hjL : j < S
    · have ij : (j : Int) < (S : Int) := by omega
      obtain ⟨i1, i2⟩ := HMul.out j hjL
      have HLj := Lib.hid (HLd.out j hjL wr HH.out.1)
      have HO2 := HH.out.2.2.2.1
      rw [show S - j = (S - (j + 1)) + 1 by omega, openS] at HO2
      have hv := HLV.out (8 * p.a.toNat + j)
      obtain ⟨v, hvv⟩ : ∃ v, v = loadV D (8 * p.a.toNat + j) := ⟨_, rfl⟩
      rw [← hvv] at HO2 HLj hv
      clear hvv
      have hlt : pb < wr.heap.size := World.block_lt_of_cell? wr _ c0'
      have HLT := Lib.hid hlt
      by_cases hv0 : v = 0
      · subst hv0
        have HO3 := Lib.hid (show openS p D (S - (j + 1)) (j + 1) Bj = (0, B) from HO2)
        clear HO2 hv hlt
        go_wp2_with fail
        refine HLj.out.mono ?_
        rintro e w7 ⟨rfl, g7⟩
        have HG7 := Lib.hid g7
        clear g7
        go_wp2_with fail
        refine (note_zero j).mono ?_
        rintro e w8 ⟨rfl, rfl⟩
        go_wp2_with fail
        go_roundw
        case rel => exact ⟨j + 1, Bj, by omega, by go_num, HH.out.1.gr0 HG7.out, (HH.out.2.1.gr0 HG7.out).moreN _ (by omega), by have := HH.out.2.2.1; omega, HO3.out, (HG7.out.cell0 HLT.out).trans c0', HH.out.2.2.2.2.2.next0 HG7.out⟩
        case measure => simp [intOf]; omega
      · have hnb : ¬ noteBad p j v Bj := by
          intro c
          have hq : noteS p j v Bj = (5, Bj) := by unfold noteS; rw [if_neg hv0, if_pos c]
          rw [hq, if_pos (by simp)] at HO2
          cases HO2
        have hq : noteS p j v Bj = (0, noteB j v Bj) := by unfold noteS; rw [if_neg hv0, if_neg hnb]
        rw [hq, if_neg (by simp)] at HO2
        have HO3 := Lib.hid HO2
        have HNo := Lib.hid (fun W (hW : BkIs W q a p Bj j) => note_ok j v hW hv0 hv hnb (by have := HS.out; omega) (by have := HH.out.2.2.1; have := HS.out; omega) (by omega))
        clear HO2 hv hlt hnb hq hv0
        go_wp2_with fail
        refine HLj.out.mono ?_
        rintro e w7 ⟨rfl, g7⟩
        have HG7 := Lib.hid g7
        clear g7
        go_wp2_with fail
        refine (HNo.out _ (HH.out.2.1.gr0 HG7.out)).mono ?_
        rintro e w8 ⟨rfl, k8, g8⟩
        have H8 := Lib.hid (And.intro k8 g8)
        clear k8 g8
        go_wp2_with fail
        go_roundw
        case rel => exact ⟨j + 1, _, by omega, by go_num, (HH.out.1.gr0 HG7.out).gr H8.out.2 (fun b hb hq => H8.out.1.sep b hq hb), H8.out.1, by show Bj.used + 1 ≤ j + 1; have := HH.out.2.2.1; omega, HO3.out, (World.cell?_of_block (w := w7) (H8.out.2.block pb (Nat.lt_of_lt_of_le HLT.out HG7.out.size) (fun c => by have := HBP.out _ c; omega))).trans ((HG7.out.cell0 HLT.out).trans c0'), (HH.out.2.2.2.2.2.next0 HG7.out).trans H8.out.2⟩
        case measure => simp [intOf]; omega
    · obtain rfl : j = S := by omega
      have ij : ¬ ((j : Int) < (j : Int)) := by omega
      have hB : Bj = B := by
        have := HH.out.2.2.2.1
        rw [Nat.sub_self, openS] at this
        exact (Prod.mk.inj this).2
      subst hB
      go_wp2_with fail
      go_ret2
      exact ⟨q, rfl, HH.out.2.1.moreN _ (by omega), HBK.out.2, HG6.out.nextN HH.out.2.2.2.2.2 (fun x hx => .inr (HBK.out.2 x hx))⟩
end
end Go.Proofs.YtefmbchebobceaaGreat

/-
  Plain lemmas on guarded words: one bit another one.
-/
namespace Go.Proofs.YtefmbchebobceaaGreat
open Go.RowKit

theorem mod_eq_of_bits {a b k : Nat} (h : ∀ i, i < k → a.testBit i = b.testBit i) : a % 2 ^ k = b % 2 ^ k := by
  apply Nat.eq_of_testBit_eq
  intro i
  rw [Nat.testBit_mod_two_pow, Nat.testBit_mod_two_pow]
  by_cases c : i < k
  · simp [c, h i c]
  · simp [c]
theorem putL_eq_of_bits {a b k : Nat} (h : ∀ i, i < 8 * k → a.testBit i = b.testBit i) : putL a k = putL b k := by
  have e : a % 256 ^ k = b % 256 ^ k := by
    rw [← two_pow_8]; exact mod_eq_of_bits h
  rw [← putL_mod a k k (Nat.le_refl _), ← putL_mod b k k (Nat.le_refl _), e]
theorem guard_bit (n : Nat) (i : Nat) (hi : i < 64) : (guardN n).testBit i = if 48 ≤ i then (n16 (check n)).testBit (i - 48) else n.testBit i := by
  unfold guardN
  rw [withN_testBit _ _ _ _ (by unfold okF; omega)]
  have e1 : (48 : Int).toNat = 48 := rfl
  have e2 : (16 : Int).toNat = 16 := rfl
  rw [e1, e2]
  by_cases c : 48 ≤ i
  · rw [if_pos (by omega), if_pos c]
  · rw [if_neg (by omega), if_neg c]
theorem check_congr {a b : Nat} (h : putL a 6 = putL b 6) : check a = check b := by unfold check; rw [h]
end Go.Proofs.YtefmbchebobceaaGreat

/-
  Layer 5: a bank and its table agree, and a write on a device that is on keeps that.
-/
namespace Go.Proofs.YtefmbchebobceaaGreat
open Go.RowKit

theorem low_guard {n : Nat} (h : n < 281474976710656) : low48 (guardN n) = n := by
  apply Nat.eq_of_testBit_eq
  intro i
  unfold low48
  rw [show (281474976710656 : Nat) = 2 ^ 48 from rfl, Nat.testBit_mod_two_pow]
  by_cases c : i < 48
  · rw [guard_bit n i (by omega), if_neg (by omega), decide_eq_true c, Bool.true_and]
  · rw [decide_eq_false c, Bool.false_and]
    symm
    apply Nat.testBit_lt_two_pow
    exact Nat.lt_of_lt_of_le h (Nat.pow_le_pow_right (n := 2) (by omega) (show 48 ≤ i by omega))
theorem guard_guard {n : Nat} (h : n < 281474976710656) : guardN (guardN n) = guardN n := by
  have hl : guardN n < 2 ^ 64 := guardN_lt n (by omega)
  have hl2 : guardN (guardN n) < 2 ^ 64 := guardN_lt _ (guardN_lt n (by omega))
  have hp : putL (guardN n) 6 = putL n 6 := putL_eq_of_bits fun i hi => by rw [guard_bit n i (by omega), if_neg (by omega)]
  apply Nat.eq_of_testBit_eq
  intro i
  by_cases c : i < 64
  · rw [guard_bit (guardN n) i c, check_congr hp]
    by_cases d : 48 ≤ i
    · rw [if_pos d, guard_bit n i c, if_pos d]
    · rw [if_neg d]
  · rw [Nat.testBit_lt_two_pow (Nat.lt_of_lt_of_le hl (Nat.pow_le_pow_right (n := 2) (by omega) (show 64 ≤ i by omega))), Nat.testBit_lt_two_pow (Nat.lt_of_lt_of_le hl2 (Nat.pow_le_pow_right (n := 2) (by omega) (show 64 ≤ i by omega)))]
section
variable {p : PlanZ} {D D' : DevS}
theorem openS_add (r2 : Nat) : ∀ (r1 k : Nat) (B B' : BkS), openS p D r1 k B = (0, B') → openS p D (r1 + r2) k B = openS p D r2 (k + r1) B'
  | 0, k, B, B', h => by
    have : B = B' := (Prod.mk.inj h).2
    rw [this, Nat.zero_add, Nat.add_zero]
  | r1 + 1, k, B, B', h => by
    rw [openS] at h
    rw [show r1 + 1 + r2 = (r1 + r2) + 1 by omega, openS]
    by_cases c : (noteS p k (loadV D (8 * p.a.toNat + k)) B).1 ≠ 0
    · rw [if_pos c] at h
      cases h
    · rw [if_neg c] at h ⊢
      rw [openS_add r2 r1 (k + 1) _ _ h, show k + 1 + r1 = k + (r1 + 1) by omega]
theorem openS_zero : ∀ (r k : Nat) (B : BkS), (∀ j, j < r → loadV D (8 * p.a.toNat + (k + j)) = 0) → openS p D r k B = (0, B)
  | 0, _, _, _ => rfl
  | r + 1, k, B, h => by
    have h0 := h 0 (by omega)
    rw [Nat.add_zero] at h0
    rw [openS, h0]
    show openS p D r (k + 1) B = (0, B)
    exact openS_zero r (k + 1) B fun j hj => by rw [show k + 1 + j = k + (j + 1) by omega]; exact h (j + 1) (by omega)
theorem openS_congr : ∀ (r k : Nat) (B : BkS), (∀ j, j < r → loadV D (8 * p.a.toNat + (k + j)) = loadV D' (8 * p.a.toNat + (k + j))) → openS p D r k B = openS p D' r k B
  | 0, _, _, _ => rfl
  | r + 1, k, B, h => by
    have h0 := h 0 (by omega)
    rw [Nat.add_zero] at h0
    rw [openS, openS, h0, openS_congr r (k + 1) _ fun j hj => by rw [show k + 1 + j = k + (j + 1) by omega]; exact h (j + 1) (by omega)]
end
structure TI (p : PlanZ) (D : DevS) (B : BkS) : Prop where
  calm : Calm D
  fits : p.a + sizeZ p ≤ (D.n : Int)
  us : (B.used : Int) ≤ p.s
  rg : ∀ x k, B.wh x = some k → ((k : Nat) : Int) < p.s
  free : ∀ k : Nat, B.used ≤ k → (k : Int) < p.s → D.med (8 * p.a.toNat + k) = 0
  op : openS p D B.used 0 ⟨0, fun _ => none⟩ = (0, B)
  tb : ∀ l : Nat, p.a ≤ (l : Int) → (l : Int) < p.a + tabZ p → D.bad l = false
section
variable {p : PlanZ} {D : DevS} {B : BkS} {s : ByteArray} {i : Int}
theorem TI.opens (h : TI p D B) : openS p D p.s.toNat 0 ⟨0, fun _ => none⟩ = (0, B) := by
  have hu := h.us
  have e : p.s.toNat = B.used + (p.s.toNat - B.used) := by omega
  rw [e, openS_add _ _ _ _ _ h.op, Nat.zero_add]
  exact openS_zero _ _ _ fun j hj => by rw [calm_load h.calm]; exact h.free _ (by omega) (by omega)
theorem TI.keep {D' : DevS} (h : TI p D B) (hc : Calm D') (hn : D'.n = D.n) (hm : ∀ x : Nat, (x : Int) < 8 * (p.a + tabZ p) → D'.med x = D.med x) (hok : okZ p = true) (hb : ∀ l : Nat, p.a ≤ (l : Int) → (l : Int) < p.a + tabZ p → D'.bad l = false) : TI p D' B := by
  obtain ⟨h1, h2, h3, h4, h5, h6⟩ := (okZ_iff p).1 hok
  have ht : 8 * tabZ p ≥ p.s := by unfold tabZ; omega
  have hu := h.us
  refine ⟨hc, by rw [hn]; exact h.fits, h.us, h.rg, fun k h1 h2 => by rw [hm _ (by omega)]; exact h.free k h1 h2, ?_, hb⟩
  rw [← openS_congr (D := D) (D' := D')]
  · exact h.op
  · intro j hj
    rw [calm_load h.calm, calm_load hc, hm _ (by omega)]
theorem rep_calm (h : TI p D B) (hok : okZ p = true) (hi : inP p i) (hs : s.size = 64) (hu : (B.used : Int) < p.s) :
    ∃ t E B', replaceS p i s D B = ⟨t, 0, E, B'⟩ ∧ TI p E B' ∧ E.n = D.n ∧ E.bad = D.bad ∧ B'.used = B.used + 1 := by
  obtain ⟨h1, h2, h3, h4, h5, h6⟩ := (okZ_iff p).1 hok
  obtain ⟨i0, i9⟩ : 0 ≤ i ∧ i < p.l := hi
  have ht : 8 * tabZ p ≥ p.s := by unfold tabZ; omega
  have ht0 : 0 ≤ tabZ p := by unfold tabZ; omega
  have hsz : sizeZ p = tabZ p + p.l + p.s := by unfold sizeZ; rw [if_pos hok]
  have hfit := h.fits
  obtain ⟨l, hl⟩ : ∃ l : Nat, spareP p B.used = (l : Int) := ⟨(spareP p B.used).toNat, by unfold spareP; omega⟩
  have hl2 : p.a + tabZ p ≤ (l : Int) ∧ l < D.n := by rw [← hl]; unfold spareP; constructor; omega; have : ((spareP p B.used).toNat : Int) = spareP p B.used := by { unfold spareP; omega }; unfold spareP at hl; omega
  obtain ⟨E2, e2, s2⟩ := put_calm (l := l) h.calm hl2.2 hs
  have T2 : TI p E2 B := h.keep s2.calm s2.n (fun x hx => by rw [s2.med, if_neg (by omega)]) hok (fun l' q1 q2 => by rw [s2.bad]; exact h.tb l' q1 q2)
  obtain ⟨m, hm⟩ : ∃ m, m = markN E2 (l : Int) i s := ⟨_, rfl⟩
  have hm2 : (tookB E2 (l : Int) s = true ∧ m = i.toNat + 1) ∨ (tookB E2 (l : Int) s = false ∧ m = 65535) := by
    rw [hm]; unfold markN
    cases tookB E2 (l : Int) s with
    | true => exact .inl ⟨rfl, rfl⟩
    | false => exact .inr ⟨rfl, rfl⟩
  have hmb : m < 281474976710656 ∧ m ≠ 0 := by rcases hm2 with ⟨_, q⟩ | ⟨_, q⟩ <;> omega
  obtain ⟨aN, haN⟩ : ∃ aN : Nat, p.a = (aN : Int) := ⟨p.a.toNat, by omega⟩
  have q2 : p.a + (B.used : Int) / 8 = ((aN + B.used / 8 : Nat) : Int) := by omega
  have q3 : (B.used : Int) % 8 = ((B.used % 8 : Nat) : Int) := by omega
  obtain ⟨E4, e4, s4⟩ := putword_calm (D := E2) (l := aN + B.used / 8) (k := B.used % 8) (v := guardN m) s2.calm (by rw [s2.n]; omega) (by omega)
  have hbt : E2.bad (aN + B.used / 8) = false := T2.tb _ (by omega) (by omega)
  have hm4 : ∀ x, E4.med x = if x = 8 * aN + B.used then guardN m else E2.med x := fun x => by
    rw [s4.med, hbt]
    by_cases c : x = 8 * aN + B.used
    · rw [if_pos c, if_pos ⟨by omega, by omega, rfl⟩]
    · rw [if_neg c, if_neg (by omega)]
  have haT : p.a.toNat = aN := by omega
  have hlow := low_guard hmb.1
  have hgg := guard_guard hmb.1
  have hg0 : guardN m ≠ 0 := fun e => by rw [e] at hlow; exact hmb.2 (by rw [← hlow]; rfl)
  have hnote : noteS p B.used (guardN m) B = (0, ⟨B.used + 1, if tookB E2 (l : Int) s then updZ B.wh i (some B.used) else B.wh⟩) := by
    unfold noteS
    rw [if_neg hg0, if_neg]
    · unfold noteB
      rw [hlow]
      rcases hm2 with ⟨t, q⟩ | ⟨t, q⟩
      · rw [t, if_neg (by omega), q]
        rw [show ((i.toNat + 1 : Nat) : Int) - 1 = i by omega]
        rfl
      · rw [t, if_pos q]
        rfl
    · unfold noteBad
      rw [hgg, hlow]
      rintro (c | c | c | c)
      · exact c rfl
      · omega
      · exact hmb.2 c
      · rcases hm2 with ⟨t, q⟩ | ⟨t, q⟩ <;> omega
  refine ⟨tookB E2 (l : Int) s, E4, ⟨B.used + 1, if tookB E2 (l : Int) s then updZ B.wh i (some B.used) else B.wh⟩, ?_, ?_, by rw [s4.n, s2.n], by rw [s4.bad, s2.bad], rfl⟩
  · unfold replaceS
    rw [hl, q2, q3, e2]
    simp only
    rw [← hm, e4]
    rfl
  · refine ⟨s4.calm, by rw [s4.n, s2.n]; exact h.fits, by show ((B.used + 1 : Nat) : Int) ≤ p.s; omega, ?_, ?_, ?_, fun l' q1 q2 => by rw [s4.bad]; exact T2.tb l' q1 q2⟩
    · intro x k hx
      rcases hm2 with ⟨t, q⟩ | ⟨t, q⟩
      · rw [t] at hx
        simp only [if_true, updZ] at hx
        split at hx
        · injection hx with hx; rw [← hx]; exact hu
        · exact h.rg x k hx
      · rw [t] at hx
        exact h.rg x k hx
    · intro k hk1 hk2
      have : B.used + 1 ≤ k := hk1
      rw [haT, hm4, if_neg (by omega), ← haT]
      exact T2.free k (by omega) hk2
    · show openS p E4 (B.used + 1) 0 ⟨0, fun _ => none⟩ = _
      rw [openS_add 1 B.used 0 _ B]
      · rw [openS, Nat.zero_add, calm_load s4.calm, haT, hm4, if_pos rfl, hnote]
        rfl
      · rw [← openS_congr (D := E2) (D' := E4)]
        · exact T2.op
        · intro j hj
          rw [calm_load s2.calm, calm_load s4.calm, haT, hm4, if_neg (by omega)]
theorem ens_calm (hok : okZ p = true) (hi : inP p i) (hs : s.size = 64) : ∀ (n : Nat) (D : DevS) (B : BkS), TI p D B → (B.used : Int) + (n : Int) ≤ p.s → ∃ e E B', ensS p i s n D B = (e, E, B') ∧ TI p E B' ∧ E.n = D.n ∧ E.bad = D.bad
  | 0, D, B, h, _ => ⟨10, D, B, rfl, h, rfl, rfl⟩
  | n + 1, D, B, h, hu => by
    obtain ⟨t, E, B', r, t1, t2, t3, t4⟩ := rep_calm h hok hi hs (by omega)
    rw [ensS, r]
    cases t with
    | true => exact ⟨0, E, B', by simp, t1, t2, t3⟩
    | false =>
      obtain ⟨e, E', B'', q1, q2, q3, q4⟩ := ens_calm hok hi hs n E B' t1 (by rw [t4]; omega)
      exact ⟨e, E', B'', by simpa using q1, q2, q3.trans t2, q4.trans t3⟩
end
end Go.Proofs.YtefmbchebobceaaGreat

/-
  Layer 5: what a Boot leaves of a Put that was cut, or of none.
-/
namespace Go.Proofs.YtefmbchebobceaaGreat
open Go.RowKit
set_option linter.unusedVariables false

theorem boot_calm (E : DevS) (L : List Nat) (kp : Nat → Bool) : Calm (bootD E L kp) := ⟨rfl, rfl, fun _ => rfl⟩
theorem bootS_mem {L : List Nat} {kp : Nat → Bool} {x : Nat} (h : bootS L kp x = true) : x ∈ L := by
  unfold bootS at h
  rw [List.any_eq_true] at h
  obtain ⟨j, _, hj⟩ := h
  rw [Bool.and_eq_true, decide_eq_true_eq] at hj
  exact List.mem_of_getElem? hj.2
theorem boot_live {E : DevS} {L : List Nat} (kp : Nat → Bool) (h : Live E) (hL : IsPend E L) : (bootD E L kp).med = E.med := by
  funext x
  show perMed E (bootS L kp) x = E.med x
  unfold perMed
  rw [if_neg]
  intro c
  exact (hL.2 x).1 (bootS_mem c.1) (h.buf _)
theorem boot_torn {D E : DevS} {B m : Nat} {f : Nat → Nat} {L : List Nat} (kp : Nat → Bool) (h : Torn D E B m f) (hL : IsPend E L) (x : Nat) :
    (bootD E L kp).med x = D.med x ∨ ∃ j, j < m ∧ x = B + j ∧ (bootD E L kp).med x = f j ∧ D.bad (x / 8) = false := by
  show perMed E (bootS L kp) x = _ ∨ ∃ j, j < m ∧ x = B + j ∧ perMed E (bootS L kp) x = f j ∧ _
  unfold perMed
  by_cases c : bootS L kp x = true ∧ E.bad (x / 8) = false
  · rw [if_pos c]
    have hne := (hL.2 x).1 (bootS_mem c.1)
    cases e : E.buf (x : Int) with
    | none => exact absurd e hne
    | some v =>
      obtain ⟨j, h1, h2, h3⟩ := h.pend _ _ e
      exact .inr ⟨j, h1, by omega, h3, by rw [← h.bad]; exact c.2⟩
  · rw [if_neg c, h.med]
    exact .inl rfl
def bare (D : DevS) : DevS := { D with buf := fun _ => none, fuse := 0, off := false }
theorem bare_calm (D : DevS) : Calm (bare D) := ⟨rfl, rfl, fun _ => rfl⟩
theorem TI.congr {p : PlanZ} {D D' : DevS} {B : BkS} (h : TI p D B) (hok : okZ p = true) (hc : Calm D') (hn : D'.n = D.n) (hb : D'.bad = D.bad) (hm : D'.med = D.med) : TI p D' B :=
  h.keep hc hn (fun x _ => by rw [hm]) hok (fun l q1 q2 => by rw [hb]; exact h.tb l q1 q2)
section
variable {p : PlanZ} {D : DevS} {B : BkS} {s : ByteArray} {i : Int}
end
end Go.Proofs.YtefmbchebobceaaGreat
