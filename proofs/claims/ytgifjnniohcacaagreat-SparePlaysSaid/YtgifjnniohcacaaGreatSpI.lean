/-
  Layer 5: Open.
-/
import Derived.Test.YtgifjnniohcacaaGreatMgF
import Derived.Deep.CutBlock
namespace Go.Proofs.YtgifjnniohcacaaGreat
open Go.RowKit

theorem open_nil (p : PlanZ) (w : World) : Calls Tryz.prog 23 #[.pointer none, planV p] w fun e w' => e = .returned (.tuple #[.pointer none, .int .i64 1]) ∧ Gr [] w w' := by
  have HG := Lib.hid ((Gr.refl [] w).alloc (Obj.cells #[.int .i64 p.a, .int .i64 p.l, .int .i64 p.s] 63))
  unfold planV
  go_enter Tryz.func23, Tryz.ntmps23
  go_wp2_with fail
  go_ret2
  exact ⟨rfl, HG.out⟩
section
variable {w : World} {a : DevA} {D : DevS} {p : PlanZ} {c : Nat}
set_option maxRecDepth 100000 in
set_option maxHeartbeats 8000000 in
theorem open_err (h : DevIs w a D) (hp : checkZ p (D.n : Int) ≠ 0) : Calls Tryz.prog 23 #[.pointer (some ⟨a.bd, 0, none⟩), planV p] w fun e w' => e = .returned (.tuple #[.pointer none, .int .i64 (checkZ p (D.n : Int))]) ∧ Gr [] w w' := by
  obtain ⟨c0, c1, c2⟩ := plan_cells p w
  have HG := Lib.hid ((Gr.refl [] w).alloc (Obj.cells #[.int .i64 p.a, .int .i64 p.l, .int .i64 p.s] 63))
  obtain ⟨w1, hw1⟩ : ∃ w1, w1 = w.alloc (Obj.cells #[.int .i64 p.a, .int .i64 p.l, .int .i64 p.s] 63) := ⟨_, rfl⟩
  have HC := Lib.hid (fun W => show Calls Tryz.prog 56 #[.agg #[.int .i64 p.a, .int .i64 p.l, .int .i64 p.s], .int .i64 (D.n : Int)] W _ from check_any p (D.n : Int) W)
  obtain ⟨e, he⟩ : ∃ e, e = checkZ p (D.n : Int) := ⟨_, rfl⟩
  rw [← he] at HC hp ⊢
  have b1 : (e != 0) = true := by simpa using hp
  have HD := Lib.hid h
  clear h he hp
  unfold planV
  go_enter Tryz.func23, Tryz.ntmps23
  go_wp2_with fail
  rw [← hw1] at c0 c1 c2 HG ⊢
  clear hw1
  have k0 := kp_cell c0
  have k1 := kp_cell c1
  have k2 := kp_cell c2
  have hne := kp_ne w1
  have HD1 := Lib.hid (HD.out.gr0 HG.out)
  refine wp_region_kp (by kernel_rfl) (by kernel_rfl) ?_
  repeat (go_big_quiet_step ((rename_i x; first | exact kp_call x (linesK (HD1.out.kp x.h)) | exact kp_call x (HC.out _))))
  with_reducible refine wpQuiet_nil ?_
  rintro _ ⟨y, rfl⟩
  have HBy := Lib.hid (HG.out.nextB y.h)
  clear k0 k1 k2 hne
  generalize y.w = w3 at *
  clear y
  go_wp2_with fail
  go_ret2
  exact ⟨rfl, HBy.out⟩
set_option maxRecDepth 100000 in
set_option maxHeartbeats 8000000 in
/-- A bank whose table is empty. -/
theorem open_zero (h : DevIs w a D) (ho : D.off = false) (hp : checkZ p (D.n : Int) = 0) (hz : ∀ k : Nat, (k : Int) < p.s → loadV D (8 * p.a.toNat + k) = 0) :
    Calls Tryz.prog 23 #[.pointer (some ⟨a.bd, 0, none⟩), planV p] w fun e w' => ∃ q : BkA, e = .returned (.tuple #[.pointer (some ⟨q.b, 0, none⟩), .int .i64 0]) ∧ BkIs w' q a p ⟨0, fun _ => none⟩ 0 ∧ (∀ b ∈ q.all, w.heap.size ≤ b) ∧ Gr [] w w' := by
  obtain ⟨hok, hsz⟩ := check_ok hp
  obtain ⟨h1, h2, h3, h4, h5, h6⟩ := (okZ_iff p).1 hok
  have hs : sizeZ p = tabZ p + p.l + p.s := by unfold sizeZ; rw [if_pos hok]
  have ht : 8 * tabZ p ≥ p.s := by unfold tabZ; omega
  obtain ⟨c0, c1, c2⟩ := plan_cells p w
  have HG := Lib.hid ((Gr.refl [] w).alloc (Obj.cells #[.int .i64 p.a, .int .i64 p.l, .int .i64 p.s] 63))
  obtain ⟨w1, hw1⟩ : ∃ w1, w1 = w.alloc (Obj.cells #[.int .i64 p.a, .int .i64 p.l, .int .i64 p.s] 63) := ⟨_, rfl⟩
  obtain ⟨pb, hpb⟩ : ∃ pb, pb = w.heap.size := ⟨_, rfl⟩
  rw [← hpb] at c0 c1 c2
  have HC := Lib.hid (fun W => show Calls Tryz.prog 56 #[.agg #[.int .i64 p.a, .int .i64 p.l, .int .i64 p.s], .int .i64 (D.n : Int)] W _ from check_any p (D.n : Int) W)
  rw [hp] at HC
  obtain ⟨aN, haN⟩ : ∃ aN : Nat, p.a = (aN : Int) := ⟨p.a.toNat, by omega⟩
  obtain ⟨S, hS⟩ : ∃ S : Nat, p.s = (S : Int) := ⟨p.s.toNat, by omega⟩
  have hnI : D.n ≤ 8192 := h.ok.hi
  have HLd := Lib.hid (fun (k : Nat) (hk : k < S) W (hW : DevIs W a D) => show Calls Tryz.prog 58 #[.pointer (some ⟨a.bd, 0, none⟩), .int .i64 (p.a * 8 + (k : Int))] W fun e w' => e = .returned (.tuple #[.int .u64 0, .int .i64 0]) ∧ Gr [] W w' by
    have r := load_ok a D (8 * aN + k) W hW ho (by omega)
    rw [show ((8 * aN + k : Nat) : Int) = p.a * 8 + (k : Int) by omega, show 8 * aN + k = 8 * p.a.toNat + k by omega, hz k (by omega)] at r
    exact r)
  have HMul := Lib.hid (show ∀ k : Nat, k < S → IntKind.i64.wrap (p.a * 8) = p.a * 8 ∧ IntKind.i64.wrap (p.a * 8 + (k : Int)) = p.a * 8 + (k : Int) from fun k hk => ⟨IntWalk.i64_in _ (by omega), IntWalk.i64_in _ (by omega)⟩)
  have HD := Lib.hid h
  have HS := Lib.hid hS
  have hS64 : S ≤ 64 := by omega
  have HO := Lib.hid (And.intro hok (show 0 ≤ p.s from h5))
  have HPB := Lib.hid (show w.heap.size ≤ pb ∧ pb < w1.heap.size by rw [hpb, hw1, World.size_alloc]; omega)
  clear h ho hp hz hok hsz h1 h2 h3 h4 h5 h6 hs ht hnI haN hS
  unfold planV
  go_enter Tryz.func23, Tryz.ntmps23
  go_wp2_with fail
  rw [← hw1] at c0 c1 c2 HG ⊢
  rw [← hpb]
  clear hw1 hpb
  have k0 := kp_cell c0
  have k1 := kp_cell c1
  have k2 := kp_cell c2
  have hne := kp_ne w1
  have HD1 := Lib.hid (HD.out.gr0 HG.out)
  refine wp_region_kp (by kernel_rfl) (by kernel_rfl) ?_
  repeat (go_big_quiet_step ((rename_i x; first | exact kp_call x (linesK (HD1.out.kp x.h)) | exact kp_call x (HC.out _))))
  with_reducible refine wpQuiet_nil ?_
  rintro _ ⟨y, rfl⟩
  have HG2 := Lib.hid (HG.out.nextB y.h)
  have HD2 := Lib.hid (HD1.out.kp y.h)
  have HP2 := Lib.hid (show pb < y.w.heap.size by have := y.h.size; have := HPB.out; omega)
  replace c0 := k0 y
  replace c1 := k1 y
  replace c2 := k2 y
  clear k0 k1 k2 hne HC HD1 HG
  generalize y.w = w2 at *
  clear y
  have hmm := @run_makeMap Tryz.prog
  go_upto_region 7 with fail
  have HQ : ∃ q : BkA, q.b = w2.heap.size + 1 ∧ BkIs ((w2.alloc (Obj.map #[] 0)).alloc (Obj.cells #[.pointer (some ⟨a.bd, 0, none⟩), .int .i64 p.a, .int .i64 p.l, .int .i64 p.s, .int .i64 0, .map (some w2.heap.size)] 77)) q a p ⟨0, fun _ => none⟩ 0 ∧ ∀ b ∈ q.all, w.heap.size ≤ b := by
    refine ⟨⟨w2.heap.size + 1, w2.heap.size⟩, rfl, ⟨?_, ?_, HO.out.1, HO.out.2, (fun x k e => by cases e), by show ¬ (w2.heap.size + 1 = w2.heap.size); omega, ?_⟩, ?_⟩
    · have := Holds.new (w2.alloc (Obj.map #[] 0)) #[.pointer (some ⟨a.bd, 0, none⟩), .int .i64 p.a, .int .i64 p.l, .int .i64 p.s, .int .i64 0, .map (some w2.heap.size)] 77
      rw [World.size_alloc] at this
      exact this
    · exact (MapZ.made w2).gr0 ((Gr.refl [] _).alloc _)
    · intro b hb q
      have := HD2.out.lt b q
      simp only [BkA.all, List.mem_cons, List.not_mem_nil, or_false] at hb
      omega
    · intro b hb
      have := HP2.out
      have := HPB.out
      simp only [BkA.all, List.mem_cons, List.not_mem_nil, or_false] at hb
      omega
  obtain ⟨q, hq, hbk, hqs⟩ := HQ
  have HG6 := Lib.hid ((HG2.out.alloc (Obj.map #[] 0)).alloc (Obj.cells #[.pointer (some ⟨a.bd, 0, none⟩), .int .i64 p.a, .int .i64 p.l, .int .i64 p.s, .int .i64 0, .map (some w2.heap.size)] 77))
  have hg6 : Gr [] w2 ((w2.alloc (Obj.map #[] 0)).alloc (Obj.cells #[.pointer (some ⟨a.bd, 0, none⟩), .int .i64 p.a, .int .i64 p.l, .int .i64 p.s, .int .i64 0, .map (some w2.heap.size)] 77)) := ((Gr.refl [] w2).alloc _).alloc _
  replace c0 := (hg6.cell0 (o := 0) HP2.out).trans c0
  replace c2 := (hg6.cell0 (o := 2) HP2.out).trans c2
  have HD6 := Lib.hid (HD2.out.gr0 hg6)
  have HP6 := Lib.hid (Nat.lt_of_lt_of_le HP2.out hg6.size)
  have HBK := Lib.hid (And.intro hbk hqs)
  rw [← hq]
  clear hq hbk hqs hg6 HG2 HD2 HP2 hmm c1
  generalize ((w2.alloc (Obj.map #[] 0)).alloc (Obj.cells #[.pointer (some ⟨a.bd, 0, none⟩), .int .i64 p.a, .int .i64 p.l, .int .i64 p.s, .int .i64 0, .map (some w2.heap.size)] 77)) = w6 at *
  go_wp2_with fail
  rw [HS.out]
  go_loopw [28] (fun k wr => ∃ j : Nat, j ≤ S ∧ k = .int .i64 j ∧ Gr [] w6 wr) (fun k _ => S - (intOf k).toNat)
  case atStart => exact ⟨0, by omega, rfl, Gr.refl _ _⟩
  case round =>
    obtain ⟨j, hj, rfl, g'⟩ := hrel
    have HH := Lib.hid g'
    have c0 := (g'.cell0 (o := 0) HP6.out).trans c0
    clear g'
    by_cases hjL : j < S
    · have ij : (j : Int) < (S : Int) := by omega
      obtain ⟨i1, i2⟩ := HMul.out j hjL
      have HLj := Lib.hid (HLd.out j hjL wr (HD6.out.gr0 HH.out))
      go_wp2_with fail
      refine HLj.out.mono ?_
      rintro e w7 ⟨rfl, g7⟩
      have HH7 := Lib.hid (HH.out.trans g7)
      clear g7
      go_wp2_with fail
      refine (note_zero j).mono ?_
      rintro e w8 ⟨rfl, rfl⟩
      go_wp2_with fail
      go_roundw
      case rel => exact ⟨j + 1, by omega, by go_num, HH7.out⟩
      case measure => simp [intOf]; omega
    · obtain rfl : j = S := by omega
      have ij : ¬ ((j : Int) < (j : Int)) := by omega
      go_wp2_with fail
      go_ret2
      exact ⟨q, rfl, HBK.out.1.gr0 HH.out, HBK.out.2, HG6.out.trans HH.out⟩
end
end Go.Proofs.YtgifjnniohcacaaGreat
