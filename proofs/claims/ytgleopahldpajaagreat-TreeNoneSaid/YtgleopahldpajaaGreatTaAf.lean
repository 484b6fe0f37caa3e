/-
  TaAf: DiC, DiD, DiE, DiJ, ExP.
-/
import Derived.Test.YtgleopahldpajaaGreatTaAe
import Derived.Shelf.SlSortCmp.WholeK
import Derived.Ground.SlsfProg
import Derived.Laws.Cover1
import Derived.WalkKit

set_option linter.unusedVariables false

/-
  Layer 17 (dir): spread, walked.
-/
namespace Go.Proofs.YtgleopahldpajaaGreat
open Go.RowKit
set_option linter.unusedVariables false

theorem BkD.of_perm {w : World} {ab nb : Nat} {mb : Nat → Nat} {F : ByteArray → Option Nat} {N M : List ByteArray} (h : BkD w ab nb mb F N) (k : N.Perm M) : BkD w ab nb mb F M :=
  ⟨h.lt, h.at', fun i hi => by rw [← cntB_perm k]; exact h.mp i hi, h.ne, h.na⟩
theorem MvB.all {N V : List ByteArray} {K : Nat} (h : MvB N V K K) {F : ByteArray → Option Nat} (ok : NmOk F N) (h0 : K = 0 → N = []) : V.Perm N := by
  refine (List.perm_ext_iff_of_nodup h.nd ok.nd).2 fun s => (h.mem s).trans ⟨fun q => q.1, fun q => ⟨q, ?_⟩⟩
  rcases Nat.eq_zero_or_pos K with e | e
  · rw [h0 e] at q; cases q
  · exact Nat.mod_lt _ e
structure SpI (w wr : World) (db ab n : Nat) (cv : Value) (mb mbo : Nat → Nat) (F : ByteArray → Option Nat) (N V : List ByteArray) (K i r : Nat) (left : ByteArray → Bool) (g : Nat) : Prop where
  sp : SpR w wr db ab n cv mb F V
  mv : MvD N V K i left
  ran : RanT niE 9 wr (mbo i) r (cntB K i N) (atB K i F) left g
  lr : w.heap.size ≤ r ∧ ab < r ∧ ∀ j, j < n → mb j < r
  lo : mbo i < w.heap.size
/-- The old buckets. -/
def OldB (w : World) (db : Nat) (ao : Option Addr) (K : Nat) (mbo : Nat → Nat) (F : ByteArray → Option Nat) (N : List ByteArray) : Prop :=
  ∀ i, i < K → ∃ ab, ao = some ⟨ab, 0, none⟩ ∧ ab < w.heap.size ∧ ab ≠ db ∧ w.cell? ⟨ab, i, none⟩ = some (.map (some (mbo i))) ∧ MapT niE 9 w (mbo i) (cntB K i N) (atB K i F) ∧ mbo i ≠ db
set_option maxHeartbeats 8000000 in
set_option maxRecDepth 100000 in
theorem spread_any (db : Nat) (ao : Option Addr) (K cap : Nat) (cv : Value) (mbo : Nat → Nat) (F : ByteArray → Option Nat) (N : List ByteArray) (n : Nat) (w : World)
    (hd : Holds w db #[.slice ao K cap, cv] 210) (hold : OldB w db ao K mbo F N) (h0 : K = 0 → N = []) (hK : K ≤ 65536) (ok : NmOk F N) (hN : N.length ≤ 1000000) (h1 : 1 ≤ n) (h2 : n ≤ 65536) :
    Calls Tryz.prog 109 #[.pointer (some ⟨db, 0, none⟩), .int .i64 (n : Int)] w fun e w' => e = .returned (.tuple #[]) ∧ ∃ (ab : Nat) (mb : Nat → Nat), SpR w w' db ab n cv mb F N ∧ BkD w' ab n mb F N := by
  have undStr := Tryz.underlying9
  have undMap : Tryz.prog.underlying 219 = some (.map 9 3) := Tryz.underlying219
  have c0 := hd.cell 0
  have f0 := hd.frozen 0
  have hmk := makeM_run n h2
  have hmm := @run_makeMap Tryz.prog
  have hdl := hd.lt
  have hdl2 : db ≠ w.heap.size := by omega
  have HO := Lib.hid hold
  have HOK := Lib.hid (And.intro ok (And.intro h0 hN))
  have HNN := Lib.hid (And.intro h1 h2)
  have H1 := Lib.hid (show SpM w ((w.setCell ⟨db, 0, none⟩ (.slice (some ⟨w.heap.size, 0, none⟩) n n)).alloc (.cells (rowT (fun _ => .map none) n) 219)) ((w.setCell ⟨db, 0, none⟩ (.slice (some ⟨w.heap.size, 0, none⟩) n n)).alloc (.cells (rowT (fun _ => .map none) n) 219)) db w.heap.size n 0 cv from by
    have e : (w.setCell ⟨db, 0, none⟩ (.slice (some ⟨w.heap.size, 0, none⟩) n n)).heap.size = w.heap.size := by simp
    refine ⟨((Gr.refl _ w).setCell (p := ⟨db, 0, none⟩) (.inl (List.mem_singleton.2 rfl)) _).alloc _, ?_, ?_, fun j hj => by omega, by omega, ⟨Nat.le_refl _, ?_, hdl⟩⟩
    · have r := ((hd.set 0 (.slice (some ⟨w.heap.size, 0, none⟩) n n)).alloc (Obj.cells (rowT (fun _ => .map none) n) 219))
      simpa using r
    · have r := Holds.new (w.setCell ⟨db, 0, none⟩ (.slice (some ⟨w.heap.size, 0, none⟩) n n)) (rowT (fun _ => .map none) n) 219
      rw [e] at r
      rw [rowT_congr (g' := fun _ => .map none) fun j _ => if_neg (by omega)]
      exact r
    · rw [World.size_alloc, e]; omega)
  clear hd hold ok h0 hN
  go_enter Tryz.func109, Tryz.ntmps109
  go_upto_region 2 with fail
  generalize ((w.setCell ⟨db, 0, none⟩ (.slice (some ⟨w.heap.size, 0, none⟩) n n)).alloc (Obj.cells (rowT (fun _ => .map none) n) 219)) = w1 at *
  obtain ⟨ab, hab⟩ : ∃ x, w.heap.size = x := ⟨_, rfl⟩
  rw [hab] at H1 ⊢
  clear hab c0 f0 hmk hdl2
  have c0 := H1.out.hd.cell 0
  go_upto_region 3 with fail
  go_loopw [24] (fun z wr => ∃ i : Nat, i ≤ n ∧ z = .int .i64 (i : Int) ∧ SpM w w1 wr db ab n i cv) (fun z _ => n - (intOf z).toNat)
  case atStart => exact ⟨0, by omega, rfl, H1.out⟩
  case round =>
    clear H1 c0
    obtain ⟨i, hi, rfl, Q⟩ := hrel
    by_cases hlt : i < n
    · as_aux_lemma =>
        have c0 := Q.hd.cell 0
        have ci : wr.cell? ⟨ab, i, none⟩ = some (.map none) := by rw [Q.row.cell, rowT_get _ _ _ hlt, if_neg (by omega)]
        have fi := Q.row.frozen i
        have l1 := Q.row.lt
        have l2 : ab ≠ wr.heap.size := by omega
        have b1 : (i : Int) < (n : Int) := by omega
        have b2 : (0 : Int) ≤ (i : Int) := by omega
        have HNX := Lib.hid (Q.next hlt)
        clear Q
        go_wp2_with fail
        go_roundw
        case rel => exact ⟨i + 1, by omega, by go_num, HNX.out⟩
        case measure => simp [intOf]; omega
    · obtain rfl : i = n := by omega
      have HS := Lib.hid (Q.done F)
      obtain ⟨mb, hmb⟩ : ∃ mb : Nat → Nat, mb = fun j => w1.heap.size + j := ⟨_, rfl⟩
      rw [← hmb] at HS
      clear hmb Q hlt hi
      go_upto_region 8 with fail
      go_loopw [37] (fun z wr => ∃ (k : Nat) (V : List ByteArray), k ≤ K ∧ z = .int .i64 (k : Int) ∧ SpR w wr db ab i cv mb F V ∧ MvB N V K k) (fun z _ => K - (intOf z).toNat)
      case atStart => exact ⟨0, [], by omega, rfl, HS.out, List.nodup_nil, fun s => by simp⟩
      case round =>
        clear HS
        obtain ⟨k, V, hk, rfl, S, M⟩ := hrel
        have HS := Lib.hid S
        have HM := Lib.hid M
        clear S M
        by_cases hlt : k < K
        · obtain ⟨abo, rfl, o1, o2, o3, o4, o5⟩ := HO.out k hlt
          have ck := (World.cell?_of_block (w := w) (HS.out.gr.block abo o1 (by simp; exact o2))).trans o3
          have HMo := Lib.hid (o4.gr HS.out.gr (by simp; exact o5))
          have HLo := Lib.hid o4.lt
          have b1 : (k : Int) < (K : Int) := by omega
          have b2 : (0 : Int) ≤ (k : Int) := by omega
          clear o1 o2 o3 o4 o5
          go_wp2_with (at_range; refine wp_rangeT rfl _ rfl rfl HMo.out undStr undMap ?_; intro w2 cnt R2 G2 hs2)
          have HI := Lib.hid (show ∃ r, r = wr.heap.size ∧ SpI w w2 db ab i cv mb mbo F N V K k r (fun z => (atB K k F z).isSome) cnt from
            ⟨_, rfl, HS.out.gr0 G2, HM.out.start HOK.out.1, R2, ⟨HS.out.gr.size, HS.out.bk.lt, fun j hj => (HS.out.bk.mp j hj).lt⟩, HLo.out⟩)
          clear R2 G2 hs2 ck HMo HLo b1 b2 HS HM
          generalize wr.heap.size = r at *
          obtain ⟨r', rfl, I⟩ := HI.out
          have HI := Lib.hid I
          clear I
          go_frame
          go_loopg [] cnt (fun g wr => ∃ V left, SpI w wr db ab i cv mb mbo F N V K k r' left g)
          case atStart => exact ⟨_, _, HI.out⟩
          case round =>
            clear HI
            obtain ⟨V, left, Q⟩ := hrel
            have HQ := Lib.hid Q
            clear Q
            go_wp2_with (at_next; refine wp_nextT rfl _ rfl rfl HQ.out.ran undStr ?_ ?_)
            · intro hdone
              have HD := Lib.hid (And.intro HQ.out.sp (HQ.out.mv.done HOK.out.1 hdone))
              clear hdone HQ
              go_wp2_with fail
              go_roundw
              case rel => exact ⟨k + 1, _, by omega, by go_num, HD.out.1, HD.out.2⟩
              case measure => simp [intOf]; omega
            · intro z c w3 cnt' hz hl hf R1 hlt2 G1 hs1 hen
              obtain ⟨q1, q2, q3⟩ := HQ.out.mv.step HOK.out.1 hl hf
              obtain ⟨l1, l2, l3⟩ := HQ.out.lr
              have S3 := HQ.out.sp.new l1 (by omega) (fun j hj => by have := l3 j hj; omega) G1
              have he2 : (Instr.entry (.pointer (some ⟨r', 0, none⟩))).run Tryz.prog w3 = .ok (.tuple #[.string z, .int .i64 (c : Int)]) w3 := hen
              have HBk := Lib.hid (bucket_any db ab i i cv mb z w3 S3.hd S3.bk.at' HNN.out.1 HNN.out.2 hz)
              have HZ := Lib.hid (And.intro q1 (And.intro q2 (And.intro q3 (And.intro S3 (And.intro R1 (And.intro hz hlt2))))))
              clear q1 q2 q3 S3 R1 hz hlt2 hl hf G1 hs1 hen l1 l2 l3
              go_wp2_with fail
              refine HBk.out.mono ?_
              rintro e w4 ⟨rfl, g4⟩
              have H4 := Lib.hid (HZ.out.2.2.2.1.gr0 g4)
              have hin : hB z % i < i := Nat.mod_lt _ (by have := HNN.out.1; omega)
              have HP := Lib.hid (H4.out.bk.mp _ hin)
              have hcl : cntB i (hB z % i) V < maxLen := by
                have h1 := cntB_le i (hB z % i) V
                have h2 : V.length ≤ N.length := nodup_sub HQ.out.mv.nd fun s hs => ((HQ.out.mv.mem s).1 hs).1
                have := HOK.out.2.2
                unfold maxLen; omega
              go_wp2_with (at_mapUpdate; refine wp_putT rfl _ _ _ rfl rfl HP.out hcl undStr undMap z rfl HZ.out.2.2.2.2.2.1 c rfl ?_; intro w5 M5 G5 hs5)
              have HN2 := Lib.hid (show SpI w w5 db ab i cv mb mbo F N (z :: V) K k r' (fun y => left y && decide (y ≠ z)) cnt' from by
                obtain ⟨l1, l2, l3⟩ := HQ.out.lr
                have l4 := HQ.out.lo
                refine ⟨H4.out.put rfl hin HZ.out.1 HZ.out.2.1 G5 M5, HZ.out.2.2.1, ?_, ⟨l1, l2, l3⟩, l4⟩
                have R6 := (HZ.out.2.2.2.2.1.gr0 g4).gr G5 (fun e => by
                  rw [List.mem_singleton] at e
                  have := H4.out.lo.2 _ hin
                  omega) (fun e => by
                  rw [List.mem_singleton] at e
                  have := l3 _ hin
                  omega)
                simpa using R6)
              clear M5 G5 hs5 HP hcl H4 g4 HBk he2
              go_wp2_with fail
              go_roundg cnt'
              case measure => exact HZ.out.2.2.2.2.2.2
              case rel => exact ⟨_, _, HN2.out⟩
        · obtain rfl : k = K := by omega
          have HR := Lib.hid (show BkD wr ab i mb F N from by
            have hp := HM.out.all HOK.out.1 HOK.out.2.1
            have h := HS.out.bk.of_perm hp
            rwa [onN_all HOK.out.1 fun s hs => hp.mem_iff.2 hs] at h)
          go_wp2_with fail
          go_returns
          exact ⟨rfl, ab, mb, ⟨HS.out.gr, HS.out.hd, by rw [onN_all HOK.out.1 fun s hs => hs]; exact HR.out, HS.out.lo, HS.out.db⟩, HR.out⟩
end Go.Proofs.YtgleopahldpajaaGreat

/-
  Layer 17 (dir): New, Get, Len, Put, Drop.
-/
namespace Go.Proofs.YtgleopahldpajaaGreat
open Go.RowKit
set_option linter.unusedVariables false

/-- What spread leaves is a directory. -/
theorem SpR.is {w w' : World} {db ab n : Nat} {mb : Nat → Nat} {F : ByteArray → Option Nat} {N : List ByteArray} (h : SpR w w' db ab n (.int .i64 (N.length : Int)) mb F N) (hb : BkD w' ab n mb F N) (ok : NmOk F N) (h1 : 1 ≤ n) (h2 : n ≤ 65536) (h3 : N.length ≤ 4 * n) :
    DiIs w' ⟨db, ab, n, n, mb⟩ F N ∧ (∀ x ∈ (⟨db, ab, n, n, mb⟩ : DiA).all, x = db ∨ w.heap.size ≤ x) ∧ Gr [db] w w' := by
  have hl := h.lo
  have hd := h.db
  refine ⟨⟨h.hd, hb, ok, ⟨by show db ≠ ab; omega, fun i hi => by have := hl.2 i hi; show mb i ≠ db; omega⟩, h1, h2, h3⟩, fun x hx => ?_, h.gr⟩
  rcases List.mem_cons.1 hx with rfl | hx
  · exact .inl rfl
  · rcases List.mem_cons.1 hx with rfl | hx
    · exact .inr hl.1
    · obtain ⟨i, hi, rfl⟩ := List.mem_map.1 hx
      exact .inr (hl.2 i (List.mem_range.1 hi))
set_option maxHeartbeats 4000000 in
set_option maxRecDepth 100000 in
theorem dnew_any (w : World) : Calls Tryz.prog 48 #[] w fun e w' => ∃ A : DiA, e = .returned (.pointer (some ⟨A.db, 0, none⟩)) ∧ A.nb = 4 ∧ DiIs w' A (fun _ => none) [] ∧ (∀ x ∈ A.all, w.heap.size ≤ x) ∧ Gr [] w w' := by
  have HS := Lib.hid (spread_any w.heap.size none 0 0 (.int .i64 0) (fun _ => 0) (fun _ => none) [] 4 _ (Holds.new w #[.slice none 0 0, .int .i64 0] 210) (fun i hi => by omega) (fun _ => rfl) (by omega) NmOk.nil (by simp) (by omega) (by omega))
  have g1 := (Gr.refl [] w).alloc (Obj.cells #[.slice none 0 0, .int .i64 0] 210)
  go_enter Tryz.func48, Tryz.ntmps48
  go_wp2_with fail
  refine HS.out.mono ?_
  rintro e w2 ⟨rfl, ab, mb, h2, b2⟩
  have H2 := Lib.hid (SpR.is (N := []) h2 b2 NmOk.nil (by omega) (by omega) (by simp))
  clear h2 b2 HS
  go_wp2_with fail
  go_ret
  refine ⟨_, rfl, rfl, H2.out.1, fun x hx => ?_, g1.nextN H2.out.2.2 fun x hx => ?_⟩
  · rcases H2.out.2.1 x hx with rfl | h
    · exact Nat.le_refl _
    · rw [World.size_alloc] at h; omega
  · rw [List.mem_singleton] at hx
    exact .inr (by omega)
section
variable {w : World} {A : DiA} {F : ByteArray → Option Nat} {N : List ByteArray}
theorem DiIs.bucket (h : DiIs w A F N) (s : ByteArray) (hs : s.size ≤ maxLen) : Calls Tryz.prog 117 #[.pointer (some ⟨A.db, 0, none⟩), .string s] w fun e w' => e = .returned (.map (some (A.mb (hB s % A.nb)))) ∧ Gr [] w w' :=
  bucket_any A.db A.ab A.nb A.cap _ A.mb s w h.hd h.bk.at' h.nb.1 h.nb.2.1 hs
set_option maxHeartbeats 4000000 in
set_option maxRecDepth 100000 in
theorem dget_any (h : DiIs w A F N) (s : ByteArray) (hs : s.size ≤ maxLen) : Calls Tryz.prog 53 #[.pointer (some ⟨A.db, 0, none⟩), .string s] w fun e w' => e = .returned (.tuple #[.int .i64 (((F s).getD 0 : Nat) : Int), .bool (F s).isSome]) ∧ Gr [] w w' := by
  have undStr := Tryz.underlying9
  have undMap : Tryz.prog.underlying 219 = some (.map 9 3) := Tryz.underlying219
  have HB := Lib.hid (h.bucket s hs)
  have hin : hB s % A.nb < A.nb := Nat.mod_lt _ (by have := h.nb.1; omega)
  have HM := Lib.hid (fun w' (g : Gr [] w w') => (h.bk.mp _ hin).gr0 g)
  have HV := Lib.hid (show Value.tuple #[niE.val ((atB A.nb (hB s % A.nb) F s).getD niE.zero), .bool (atB A.nb (hB s % A.nb) F s).isSome] = .tuple #[.int .i64 (((F s).getD 0 : Nat) : Int), .bool (F s).isSome] from by rw [atB_own]; rfl)
  have HS := Lib.hid (show WfT s from hs)
  obtain ⟨m, hm⟩ : ∃ m, m = A.mb (hB s % A.nb) := ⟨_, rfl⟩
  rw [← hm] at HB HM
  clear h hm hin
  go_enter Tryz.func53, Tryz.ntmps53
  go_wp2_with fail
  refine HB.out.mono ?_
  rintro e w2 ⟨rfl, g2⟩
  have H2 := Lib.hid (HM.out _ g2)
  have HG := Lib.hid g2
  clear g2 HM HB
  go_wp2_with (at_lookup; refine wp_lookT_oks rfl _ _ rfl rfl H2.out undStr undMap s rfl HS.out _ HV.out ?_)
  go_ret2
  exact ⟨rfl, HG.out⟩
end
end Go.Proofs.YtgleopahldpajaaGreat

/-
  Layer 17 (dir): Put, Drop.
-/
namespace Go.Proofs.YtgleopahldpajaaGreat
open Go.RowKit
set_option linter.unusedVariables false

theorem dname_str (s : ByteArray) (w : World) : Calls Tryz.prog 80 #[.string s] w fun e w' => e = .returned (.int .i64 (nmE s.data.toList)) ∧ Below w.heap.size w w' := dname_at s.data.toList w
theorem num17 (n : Int) (w : World) : Calls Tryz.prog 161 #[.int .i64 n] w fun e w' => e = .returned (.bool (decide (0 ≤ n ∧ n ≤ 65535))) ∧ w' = w := by
  by_cases h1 : 0 ≤ n
  · by_cases h2 : n ≤ 65535
    · have hd : decide (0 ≤ n ∧ n ≤ 65535) = true := decide_eq_true ⟨h1, h2⟩
      rw [hd]
      go_enter Tryz.func161, Tryz.ntmps161
      go_wp2_with fail
      go_ret
      exact ⟨rfl, rfl⟩
    · have hd : decide (0 ≤ n ∧ n ≤ 65535) = false := decide_eq_false fun q => h2 q.2
      rw [hd]
      go_enter Tryz.func161, Tryz.ntmps161
      go_wp2_with fail
      go_ret
      exact ⟨rfl, rfl⟩
  · have hd : decide (0 ≤ n ∧ n ≤ 65535) = false := decide_eq_false fun q => h1 q.1
    rw [hd]
    go_enter Tryz.func161, Tryz.ntmps161
    go_wp2_with fail
    go_ret
    exact ⟨rfl, rfl⟩
section
variable {w : World} {A : DiA} {F : ByteArray → Option Nat} {N : List ByteArray}
/-- How many buckets there are behind a Put. -/
def growB (nb : Nat) (F : ByteArray → Option Nat) (N : List ByteArray) (s : ByteArray) : Nat := if (F s).isSome then nb else if 4 * nb < N.length + 1 then 2 * nb else nb
set_option maxHeartbeats 8000000 in
set_option maxRecDepth 100000 in
theorem dput_ok (h : DiIs w A F N) (s : ByteArray) (v : Nat) (hn : nameP s.data.toList = true) (hv : v ≤ 65535) (hb : A.nb ≤ 32768) : Calls Tryz.prog 126 #[.pointer (some ⟨A.db, 0, none⟩), .string s, .int .i64 (v : Int)] w fun e w' => e = .returned (.int .i64 0) ∧ ∃ A' : DiA, A'.db = A.db ∧ A'.nb = growB A.nb F N s ∧ DiIs w' A' (updT F s (some v)) (putN F N s) ∧ (∀ x ∈ A'.all, x ∈ A.all ∨ w.heap.size ≤ x) ∧ Gr A.all w w' := by
  have undStr := Tryz.underlying9
  have undMap : Tryz.prog.underlying 219 = some (.map 9 3) := Tryz.underlying219
  have HN := Lib.hid (fun W => dname_str s W)
  have e : nmE s.data.toList = 0 := by unfold nmE; rw [hn]; rfl
  rw [e] at HN
  clear e
  have HM := Lib.hid (fun W => num17 (v : Int) W)
  rw [decide_eq_true (show 0 ≤ (v : Int) ∧ (v : Int) ≤ 65535 by omega)] at HM
  have HSZ := Lib.hid (show WfT s from by have := nameP_size hn; unfold WfT maxLen; omega)
  have HH := Lib.hid h
  have HK := Lib.hid (And.intro hn (And.intro hv hb))
  have HOk := Lib.hid (h.ok.put s v hn hv)
  have hz : ¬ (A.nb : Int) = 0 := by have := h.nb.1; omega
  have hz2 : ((A.nb : Int) == 0) = false := by simp; have := h.nb.1; omega
  clear h hn hv hb
  go_enter Tryz.func126, Tryz.ntmps126
  go_wp2_with fail
  refine (HN.out _).mono ?_
  rintro e w2 ⟨rfl, b2⟩
  have H2 := Lib.hid (And.intro (HH.out.gr0 (Gr.ofBelow (cs := []) b2)) (Gr.ofBelow (cs := []) b2))
  clear b2 HN
  go_wp2_with fail
  refine (HM.out _).mono ?_
  rintro e w3 ⟨rfl, rfl⟩
  clear HM
  have c0 := H2.out.1.hd.cell 0
  have HBk := Lib.hid (H2.out.1.bucket s HSZ.out)
  go_wp2_with fail
  refine HBk.out.mono ?_
  rintro e w4 ⟨rfl, g4⟩
  have H4 := Lib.hid (And.intro (H2.out.1.gr0 g4) (H2.out.2.trans g4))
  clear g4 H2 HBk c0
  obtain ⟨i0, hi0⟩ : ∃ i, i = hB s % A.nb := ⟨_, rfl⟩
  have hin : i0 < A.nb := by rw [hi0]; exact Nat.mod_lt _ (by have := HH.out.nb.1; omega)
  rw [← hi0]
  have HP := Lib.hid (H4.out.1.bk.mp i0 hin)
  have HV := Lib.hid (show Value.tuple #[niE.val ((atB A.nb i0 F s).getD niE.zero), .bool (atB A.nb i0 F s).isSome] = .tuple #[.int .i64 (((F s).getD 0 : Nat) : Int), .bool (F s).isSome] from by rw [hi0, atB_own]; rfl)
  have hcl : cntB A.nb i0 N < maxLen := by
    have h1 := cntB_le A.nb i0 N
    have h2 := HH.out.nb
    unfold maxLen; omega
  have HI := Lib.hid (And.intro hi0 hin)
  clear hi0 hin
  go_upto_region 12 with (at_lookup; refine wp_lookT_oks rfl _ _ rfl rfl HP.out undStr undMap s rfl HSZ.out _ HV.out ?_)
  go_upto_region 13 with (at_mapUpdate; refine wp_putT rfl _ _ _ rfl rfl HP.out hcl undStr undMap s rfl HSZ.out v rfl ?_; intro w5 M5 G5 hs5)
  have H5 := Lib.hid (show BkD w5 A.ab A.nb A.mb (updT F s (some v)) (putN F N s) ∧ Holds w5 A.db #[.slice (some ⟨A.ab, 0, none⟩) A.nb A.cap, .int .i64 (N.length : Int)] 210 ∧ Gr A.all w w5 from by
    have hin := HI.out.2
    refine ⟨H4.out.1.bk.put G5 s v HI.out.1 hin M5, H4.out.1.hd.gr G5 fun e => ?_, (Gr.of0 H4.out.2).trans (G5.mono fun x hx => ?_)⟩
    · rw [List.mem_singleton] at e
      exact HH.out.nd.2 i0 hin e.symm
    · rw [List.mem_singleton] at hx
      subst hx
      exact DiA.mem_mb hin)
  clear M5 G5 hs5 HP hcl HV H4
  by_cases hc : (F s).isSome = true
  · have hP : putN F N s = N := if_pos hc
    have hB : growB A.nb F N s = A.nb := if_pos hc
    rw [hP] at H5 HOk
    go_wp2_with fail
    go_ret
    exact ⟨rfl, A, rfl, hB.symm, by rw [hP]; exact ⟨H5.out.2.1, H5.out.1, HOk.out, HH.out.nd, HH.out.nb⟩, fun x hx => .inl hx, H5.out.2.2⟩
  · have hc1 : (F s).isSome = false := by simpa using hc
    have hP : putN F N s = s :: N := if_neg hc
    rw [hP] at H5 HOk
    have HGB := Lib.hid (show growB A.nb F N s = if 4 * A.nb < N.length + 1 then 2 * A.nb else A.nb from if_neg hc)
    have c1 := H5.out.2.1.cell 1
    have f1 := H5.out.2.1.frozen 1
    have hmb := HH.out.nb
    have hkk := HK.out.2.2
    have H6 := Lib.hid (show BkD (w5.setCell ⟨A.db, 1, none⟩ (.int .i64 ((N.length : Int) + 1))) A.ab A.nb A.mb (updT F s (some v)) (s :: N) ∧ Holds (w5.setCell ⟨A.db, 1, none⟩ (.int .i64 ((N.length : Int) + 1))) A.db #[.slice (some ⟨A.ab, 0, none⟩) A.nb A.cap, .int .i64 ((N.length : Int) + 1)] 210 ∧ Gr A.all w (w5.setCell ⟨A.db, 1, none⟩ (.int .i64 ((N.length : Int) + 1))) from by
      have g : Gr [A.db] w5 (w5.setCell ⟨A.db, 1, none⟩ (.int .i64 ((N.length : Int) + 1))) := (Gr.refl _ _).setCell (p := ⟨A.db, 1, none⟩) (.inl (List.mem_singleton.2 rfl)) _
      refine ⟨H5.out.1.gr g (fun e => HH.out.nd.1 (List.mem_singleton.1 e).symm) fun i hi e => HH.out.nd.2 i hi (List.mem_singleton.1 e), ?_, H5.out.2.2.trans (g.mono fun x hx => ?_)⟩
      · have r := H5.out.2.1.set 1 (.int .i64 ((N.length : Int) + 1))
        simpa using r
      · rw [List.mem_singleton] at hx
        subst hx
        simp [DiA.all])
    clear hc
    go_upto_region 15 with fail
    generalize (w5.setCell ⟨A.db, 1, none⟩ (.int .i64 ((N.length : Int) + 1))) = w6 at *
    clear c1 f1 H5
    have c0 := H6.out.2.1.cell 0
    have c1 := H6.out.2.1.cell 1
    have hne := kp_ne w6
    have k0 := kp_cell c0
    have k1 := kp_cell c1
    refine wp_region_kp (by kernel_rfl) (by kernel_rfl) ?_
    repeat (go_big_quiet_step (fail))
    with_reducible refine wpQuiet_nil ?_
    rintro _ ⟨y, rfl⟩
    have gy := Gr.ofBelow (cs := []) y.h
    have H7 := Lib.hid (show BkD y.w A.ab A.nb A.mb (updT F s (some v)) (s :: N) ∧ Holds y.w A.db #[.slice (some ⟨A.ab, 0, none⟩) A.nb A.cap, .int .i64 ((N.length : Int) + 1)] 210 ∧ Gr A.all w y.w from ⟨H6.out.1.gr0 gy, H6.out.2.1.gr0 gy, H6.out.2.2.next0 gy⟩)
    clear k0 k1 hne gy H6 c0 c1
    generalize y.w = w7 at *
    clear y
    by_cases hg : 4 * A.nb < N.length + 1
    · have hcmp : 4 * (A.nb : Int) < (N.length : Int) + 1 := by omega
      have HB2 := Lib.hid (show growB A.nb F N s = 2 * A.nb from HGB.out.trans (if_pos hg))
      have HSp := Lib.hid (spread_any A.db (some ⟨A.ab, 0, none⟩) A.nb A.cap (.int .i64 ((N.length : Int) + 1)) A.mb (updT F s (some v)) (s :: N) (2 * A.nb) w7 H7.out.2.1 (fun i hi => ⟨A.ab, rfl, H7.out.1.lt, fun e => HH.out.nd.1 e.symm, H7.out.1.at' i hi, H7.out.1.mp i hi, HH.out.nd.2 i hi⟩) (fun e => by omega) (by omega) HOk.out (by simp only [List.length_cons]; omega) (by omega) (by have := HK.out; omega))
      rw [show ((2 * A.nb : Nat) : Int) = 2 * (A.nb : Int) by omega] at HSp
      have c0 := H7.out.2.1.cell 0
      go_wp2_with fail
      refine HSp.out.mono ?_
      rintro e w8 ⟨rfl, ab, mb, h8, b8⟩
      rw [show (N.length : Int) + 1 = ((s :: N).length : Int) from by simp] at h8
      have H8 := Lib.hid (h8.is b8 HOk.out (by omega) (by have := HK.out; omega) (by simp only [List.length_cons]; omega))
      clear h8 b8 HSp
      go_wp2_with fail
      go_ret
      obtain ⟨h1, h2, h3⟩ := H8.out
      refine ⟨rfl, ⟨A.db, ab, 2 * A.nb, 2 * A.nb, mb⟩, rfl, ?_, by rw [hP]; exact h1, fun x hx => ?_, H7.out.2.2.trans (h3.mono fun x hx => ?_)⟩
      · exact HB2.out.symm
      · rcases h2 x hx with rfl | h
        · exact .inl (by simp [DiA.all])
        · have := H7.out.2.2.size; exact .inr (by omega)
      · rw [List.mem_singleton] at hx
        subst hx
        simp [DiA.all]
    · have hcmp : (N.length : Int) + 1 ≤ 4 * (A.nb : Int) := by omega
      have HB2 := Lib.hid (show growB A.nb F N s = A.nb from HGB.out.trans (if_neg hg))
      go_wp2_with fail
      go_ret
      rw [HB2.out, hP]
      refine ⟨rfl, A, rfl, rfl, ⟨?_, H7.out.1, HOk.out, HH.out.nd, ⟨hmb.1, hmb.2.1, by simp only [List.length_cons]; omega⟩⟩, fun x hx => .inl hx, H7.out.2.2⟩
      have r := H7.out.2.1
      simpa using r
end
end Go.Proofs.YtgleopahldpajaaGreat

/-
  Layer 17 (dir): entries are sorted by their names.
-/
namespace Go.Proofs.YtgleopahldpajaaGreat
open Go.RowKit Go.Shelf
set_option linter.unusedVariables false

/-- How two texts compare. -/
def cmpT (x y : ByteArray) : Int := if x.data.toList < y.data.toList then -1 else if x = y then 0 else 1
theorem cmpT_neg (x y : ByteArray) : decide (cmpT x y < 0) = Go.Sort.ltStr x.data.toList y.data.toList := by
  unfold cmpT Go.Sort.ltStr
  by_cases h : x.data.toList < y.data.toList
  · simp [h]
  · by_cases e : x = y
    · subst e; simp [h]
    · simp [h, e]
set_option maxRecDepth 100000 in
theorem isnan_any (x : ByteArray) (W : World) : Calls Tryz.prog 157 #[.string x] W fun e w' => e = .returned (.bool false) ∧ w' = W := by
  go_enter Tryz.func157, Tryz.ntmps157
  go_wp2_with fail
  go_ret
  exact ⟨rfl, rfl⟩
set_option maxRecDepth 100000 in
theorem cmps_any (x y : ByteArray) (W : World) : Calls Tryz.prog 116 #[.string x, .string y] W fun e w' => e = .returned (.int .i64 (cmpT x y)) ∧ w' = W := by
  have HX := Lib.hid (isnan_any x W)
  have HY := Lib.hid (isnan_any y W)
  have hb : Op.bytesLess x.toList y.toList = decide (x.data.toList < y.data.toList) := by rw [bytesLess_eq, Lib.toList_data, Lib.toList_data]
  by_cases h : x.data.toList < y.data.toList
  · have hc : cmpT x y = -1 := if_pos h
    rw [decide_eq_true h] at hb
    rw [hc]
    clear h hc
    go_enter Tryz.func116, Tryz.ntmps116
    go_wp2_with fail
    refine HX.out.mono ?_
    rintro e w2 ⟨rfl, rfl⟩
    go_wp2_with fail
    refine HY.out.mono ?_
    rintro e w3 ⟨rfl, rfl⟩
    go_wp2_with fail
    go_ret
    exact ⟨rfl, rfl⟩
  · rw [decide_eq_false h] at hb
    by_cases e : x = y
    · subst e
      have hc : cmpT x x = 0 := by unfold cmpT; rw [if_neg h, if_pos rfl]
      rw [hc]
      clear h hc
      go_enter Tryz.func116, Tryz.ntmps116
      go_wp2_with fail
      refine HX.out.mono ?_
      rintro e w2 ⟨rfl, rfl⟩
      go_wp2_with fail
      refine HY.out.mono ?_
      rintro e w3 ⟨rfl, rfl⟩
      go_wp2_with fail
      go_ret
      exact ⟨rfl, rfl⟩
    · have he : (x.toList == y.toList) = false := by
        rw [Lib.toList_data, Lib.toList_data, beq_eq_false_iff_ne]
        exact fun q => e (ByteArray.ext (Array.ext' q))
      have hc : cmpT x y = 1 := by unfold cmpT; rw [if_neg h, if_neg e]
      rw [hc]
      clear h hc e
      go_enter Tryz.func116, Tryz.ntmps116
      go_wp2_with fail
      refine HX.out.mono ?_
      rintro e w2 ⟨rfl, rfl⟩
      go_wp2_with fail
      refine HY.out.mono ?_
      rintro e w3 ⟨rfl, rfl⟩
      go_wp2_with fail
      go_ret
      exact ⟨rfl, rfl⟩
end Go.Proofs.YtgleopahldpajaaGreat

/-
  Layer 15: lists of runs, and the blocks that they tell.
-/
namespace Go.Proofs.YtgleopahldpajaaGreat

/-- The blocks of a run; of a list. -/
def blkR (e : Int × Int) : List Int := (List.range e.2.toNat).map fun (k : Nat) => if e.1 = -1 then (-1 : Int) else e.1 + (k : Int)
def blk (l : List (Int × Int)) : List Int := l.flatMap blkR
/-- Could two runs be one? -/
def mrg (a b : Int × Int) : Bool := if a.1 = -1 ∨ b.1 = -1 then decide (a.1 = b.1) else decide (a.1 + a.2 = b.1)
/-- No two neighbours could be one. -/
def apartP : List (Int × Int) → Bool
  | [] => true
  | [_] => true
  | a :: b :: r => !mrg a b && apartP (b :: r)
/-- What is told of a list: the first k runs may be. -/
def okK (l : List (Int × Int)) (k : Nat) : Prop := (∀ e ∈ l.take k, -1 ≤ e.1 ∧ e.1 ≤ 65536 ∧ 1 ≤ e.2 ∧ e.2 ≤ 65536) ∧ apartP (l.take k) = true
def sumZ : List (Int × Int) → Int
  | [] => 0
  | e :: r => e.2 + sumZ r
theorem sumZ_append (A B : List (Int × Int)) : sumZ (A ++ B) = sumZ A + sumZ B := by
  induction A with
  | nil => simp [sumZ]
  | cons e r ih => simp only [List.cons_append, sumZ, ih]; omega
def Right15 (l : List (Int × Int)) : Prop := l.length ≤ 64 ∧ okK l l.length ∧ sumZ l ≤ 65536
theorem apart_snoc (A : List (Int × Int)) (p e : Int × Int) : apartP (A ++ [p] ++ [e]) = (apartP (A ++ [p]) && !mrg p e) := by
  induction A with
  | nil => simp [apartP]
  | cons x r ih =>
    cases r with
    | nil => simp [apartP]
    | cons y s =>
      simp only [List.cons_append, apartP] at ih ⊢
      rw [ih, Bool.and_assoc]
theorem okK_zero (l : List (Int × Int)) : okK l 0 := ⟨fun e he => by simp at he, by simp [apartP]⟩
theorem okK_one {l : List (Int × Int)} {e : Int × Int} (h : l[0]? = some e) (h1 : -1 ≤ e.1 ∧ e.1 ≤ 65536 ∧ 1 ≤ e.2 ∧ e.2 ≤ 65536) : okK l 1 := by
  obtain ⟨a, b⟩ := List.getElem?_eq_some_iff.1 h
  have : l.take 1 = [e] := by rw [List.take_succ_eq_append_getElem a, b]; rfl
  unfold okK
  rw [this]
  exact ⟨fun x hx => by simp at hx; subst hx; exact h1, rfl⟩
theorem okK_step {l : List (Int × Int)} {k : Nat} {p e : Int × Int} (hp : l[k]? = some p) (he : l[k + 1]? = some e) (h : okK l (k + 1)) (h1 : -1 ≤ e.1 ∧ e.1 ≤ 65536 ∧ 1 ≤ e.2 ∧ e.2 ≤ 65536) : okK l (k + 2) ↔ mrg p e = false := by
  obtain ⟨a, b⟩ := List.getElem?_eq_some_iff.1 he
  obtain ⟨c, d⟩ := List.getElem?_eq_some_iff.1 hp
  have e1 : l.take (k + 1) = l.take k ++ [p] := by rw [List.take_succ_eq_append_getElem c, d]
  have e2 : l.take (k + 2) = l.take k ++ [p] ++ [e] := by rw [List.take_succ_eq_append_getElem a, b, e1]
  have q := h.2
  rw [e1] at q
  unfold okK
  rw [e2, apart_snoc, q, Bool.true_and, Bool.not_eq_true']
  constructor
  · intro z; exact z.2
  · intro z
    refine ⟨fun x hx => ?_, z⟩
    rcases List.mem_append.1 hx with w | w
    · exact h.1 x (by rw [e1]; exact w)
    · simp at w; subst w; exact h1
theorem okK_mono {l : List (Int × Int)} {k : Nat} (h : okK l (k + 1)) : okK l k := by
  refine ⟨fun e he => h.1 e ?_, ?_⟩
  · rw [show k = min k (k + 1) by omega, ← List.take_take] at he
    exact List.mem_of_mem_take he
  · cases k with
    | zero => simp [apartP]
    | succ k =>
      by_cases hk : k + 1 < l.length
      · have e2 : l.take (k + 2) = l.take (k + 1) ++ [l[k + 1]] := List.take_succ_eq_append_getElem hk
        have e1 : l.take (k + 1) = l.take k ++ [l[k]] := List.take_succ_eq_append_getElem (by omega)
        have q := h.2
        rw [e2, e1, apart_snoc, Bool.and_eq_true] at q
        rw [e1]; exact q.1
      · have q := h.2
        rw [List.take_of_length_le (by omega)] at q ⊢
        exact q
theorem okK_le {l : List (Int × Int)} {k j : Nat} (h : okK l k) (hj : j ≤ k) : okK l j := by
  induction k with
  | zero =>
    have : j = 0 := by omega
    subst this
    exact h
  | succ k ih =>
    by_cases e : j = k + 1
    · subst e; exact h
    · exact ih (okK_mono h) (by omega)
theorem okK_all {l : List (Int × Int)} (h : okK l l.length) : (∀ e ∈ l, -1 ≤ e.1 ∧ e.1 ≤ 65536 ∧ 1 ≤ e.2 ∧ e.2 ≤ 65536) ∧ apartP l = true := by
  have := h
  unfold okK at this
  rwa [List.take_length] at this
theorem Right15.all {l : List (Int × Int)} (h : Right15 l) : ∀ e ∈ l, -1 ≤ e.1 ∧ e.1 ≤ 65536 ∧ 1 ≤ e.2 ∧ e.2 ≤ 65536 := (okK_all h.2.1).1
theorem sumZ_take {l : List (Int × Int)} {k : Nat} {e : Int × Int} (h : l[k]? = some e) : sumZ (l.take (k + 1)) = sumZ (l.take k) + e.2 := by
  obtain ⟨a, b⟩ := List.getElem?_eq_some_iff.1 h
  rw [List.take_succ_eq_append_getElem a, b, sumZ_append]
  simp [sumZ]
theorem sumZ_bound {l : List (Int × Int)} {k : Nat} (h : okK l k) : 0 ≤ sumZ (l.take k) ∧ sumZ (l.take k) ≤ 65536 * k := by
  induction k with
  | zero => simp [sumZ]
  | succ k ih =>
    have h1 := ih (okK_mono h)
    by_cases hk : k < l.length
    · have he := List.getElem?_eq_getElem hk
      rw [sumZ_take he]
      have hm : l[k] ∈ l.take (k + 1) := by rw [List.take_succ_eq_append_getElem hk]; exact List.mem_append.2 (.inr (List.mem_singleton.2 rfl))
      have := h.1 _ hm
      constructor
      · omega
      · have e : (65536 : Int) * ((k + 1 : Nat) : Int) = 65536 * (k : Int) + 65536 := by push_cast; omega
        omega
    · rw [List.take_of_length_le (by omega)] at h1 ⊢
      constructor
      · omega
      · have e : (65536 : Int) * ((k + 1 : Nat) : Int) = 65536 * (k : Int) + 65536 := by push_cast; omega
        omega
end Go.Proofs.YtgleopahldpajaaGreat
