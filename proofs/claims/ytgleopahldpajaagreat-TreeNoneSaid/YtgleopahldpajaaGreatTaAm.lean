/-
  TaAm: TrL, PaQ, PaS, PaI.
-/
import Derived.Test.YtgleopahldpajaaGreatTaAl
import Derived.Test.YtgleopahldpajaaGreatTaAd
import Derived.Test.YtgleopahldpajaaGreatTaAa
import Derived.Shelf.RegionOpenPlain
import Derived.Laws.Strings3
import Derived.RangeFuncNested
import Derived.RangeFuncBound
import Derived.RangeFuncCalls
import Derived.RangeFuncLeaves
import Derived.RangeFuncBox
import Derived.Shelf.Abstract
import Derived.Shelf.RegionOpen
import Derived.WalkKit
import Derived.OwnWalkIn
import Derived.TacticsInMore
import Derived.LoopNIn
import Derived.LoopIn
import Derived.Maps.AppendAt

set_option linter.unusedVariables false

/-
  Layer 19 (tree): Make, where it may be.
-/
namespace Go.Proofs.YtgleopahldpajaaGreat
open Go.RowKit
set_option linter.unusedVariables false
theorem no_names {T : Int → Option NdZ} {nm : List NmZ} (h : TrO T nm) {of : Int} (ho : T of = none) : lkN nm of = (fun _ => none) ∧ nmsOf nm of = [] := by
  have h1 : lkN nm of = fun _ => none := by
    funext y
    cases c : lkN nm of y with
    | none => rfl
    | some v =>
      obtain ⟨_, _, ⟨d, hd, _⟩, _⟩ := h.nms _ (lkN_some c)
      have hd : T of = some d := hd
      rw [ho] at hd; cases hd
  refine ⟨h1, List.eq_nil_iff_forall_not_mem.2 fun s hs => ?_⟩
  rw [mem_nmsOf h.nd, h1] at hs
  cases hs
section
variable {w w' w2 : World} {A : TrA} {Z : TrZ} {K : Nat} {g : Int → NdV} {n : Int} {x : NdZ} {v : NdV}
set_option maxRecDepth 20000 in
set_option maxHeartbeats 4000000 in
theorem make_ok1 (h : TrG w A Z K g) (ok : TrOk Z.T Z.nm) (n : Int) (hn : WfZ n) (s : ByteArray) (hs : s.size ≤ maxLen)  (l0 sz : Int) (b : List (Int × Int)) (ao : Option Addr) (m cap : Nat) (t : ByteArray) (hb : Sl2 w (.slice ao m cap) b) (hvac : vacE Z.T Z.nm n s = 0) (hr : Right16 2 2 sz b t) (hf : lenZ Z.T < 1024) (hK : K ≤ 20000) (hl : ¬ 1000 ≤ lkT Z.T n) : Calls Tryz.prog 16 #[.pointer (some ⟨A.tb, 0, none⟩), .int .i64 n, .string s, .agg #[.int .u8 2, .int .i64 l0, .int .i64 sz, .slice ao m cap, .string t]] w fun e w' => ∃ of : Nat, e = .returned (.tuple #[.int .i64 (of : Int), .int .i64 0]) ∧ IsLow Z.T of ∧ (∃ g' : Int → NdV, TrG w' A (Z.make n s of (newN 2 sz b t n)) (K + 3) g') ∧ Gr A.own w w' := by
  obtain ⟨d, hd, dk, dl, hnm, hno⟩ := vacE_ok hvac
  have g1 : Gr [] w (w.alloc (Obj.cells #[.int .u8 2, .int .i64 l0, .int .i64 sz, .slice ao m cap, .string t] 42)) := (Gr.refl [] w).alloc _
  have hx7 := Holds.new w #[.int .u8 2, .int .i64 l0, .int .i64 sz, .slice ao m cap, .string t] 42
  have hv := vacant_any (h.gr0 g1) n hn s hs
  rw [hvac, pickV_ok rfl] at hv
  have hdv := h.nd n d hd
  obtain ⟨v, hgv⟩ : ∃ v, v = g n := ⟨_, rfl⟩
  rw [← hgv] at hv hdv
  have HV := Lib.hid hv
  have HG := Lib.hid g1
  have HX := Lib.hid hx7
  have HH := Lib.hid h
  have HD := Lib.hid (And.intro hd (And.intro dk (And.intro dl (And.intro hnm (And.intro hno (And.intro hdv hgv))))))
  have HW := Lib.hid hn
  have HB := Lib.hid hb
  have HS := Lib.hid hs
  have HOK := Lib.hid ok
  have HVL := Lib.hid (show v.l = (d.l : Int) from hdv.l)
  clear h hn hs hvac g1 hv hx7 hb hd dk dl hnm hno hdv hgv ok
  go_enter Tryz.func16, Tryz.ntmps16
  go_wp2_with fail
  with_reducible refine HV.out.mono ?_
  rintro e w1 ⟨rfl, g2⟩
  have G2 := HG.out.next0 g2
  have hx1 := (HX.out.gr0 g2).alloc (Obj.cells #[.int .u8 v.k, .int .i64 v.l, .int .i64 v.s, .slice v.ao v.n v.cap, .string v.t, .pointer v.dp, .int .i64 v.up, .int .i64 v.op] 125)
  have c0 := hx1.cell 0
  have c1 := hx1.cell 1
  have c2 := hx1.cell 2
  have c3 := hx1.cell 3
  have c4 := hx1.cell 4
  have f1 := hx1.frozen 1
  have hx2 : Holds (((w1.alloc (Obj.cells #[.int .u8 v.k, .int .i64 v.l, .int .i64 v.s, .slice v.ao v.n v.cap, .string v.t, .pointer v.dp, .int .i64 v.up, .int .i64 v.op] 125)).setCell ⟨w.heap.size, 1, none⟩ (.int .i64 1)).setCell ⟨w.heap.size, 1, none⟩ (.int .i64 2)) w.heap.size #[.int .u8 2, .int .i64 2, .int .i64 sz, .slice ao m cap, .string t] 42 := by
    have r := ((hx1.set 1 (.int .i64 1)).set 1 (.int .i64 2))
    simpa using r
  have G3 : Gr [] w (((w1.alloc (Obj.cells #[.int .u8 v.k, .int .i64 v.l, .int .i64 v.s, .slice v.ao v.n v.cap, .string v.t, .pointer v.dp, .int .i64 v.up, .int .i64 v.op] 125)).setCell ⟨w.heap.size, 1, none⟩ (.int .i64 1)).setCell ⟨w.heap.size, 1, none⟩ (.int .i64 2)) := ((((G2.alloc _).setCell (p := ⟨w.heap.size, 1, none⟩) (.inr (Nat.le_refl _)) (.int .i64 1))).setCell (p := ⟨w.heap.size, 1, none⟩) (.inr (Nat.le_refl _)) (.int .i64 2))
  have h10 : Holds (((w1.alloc (Obj.cells #[.int .u8 v.k, .int .i64 v.l, .int .i64 v.s, .slice v.ao v.n v.cap, .string v.t, .pointer v.dp, .int .i64 v.up, .int .i64 v.op] 125)).setCell ⟨w.heap.size, 1, none⟩ (.int .i64 1)).setCell ⟨w.heap.size, 1, none⟩ (.int .i64 2)) w1.heap.size #[.int .u8 v.k, .int .i64 v.l, .int .i64 v.s, .slice v.ao v.n v.cap, .string v.t, .pointer v.dp, .int .i64 v.up, .int .i64 v.op] 125 := (((Holds.new w1 #[.int .u8 v.k, .int .i64 v.l, .int .i64 v.s, .slice v.ao v.n v.cap, .string v.t, .pointer v.dp, .int .i64 v.up, .int .i64 v.op] 125).far (a := ⟨w.heap.size, 1, none⟩) (by have := g2.size; rw [World.size_alloc] at this; show w1.heap.size ≠ w.heap.size; omega) (.int .i64 1)).far (a := ⟨w.heap.size, 1, none⟩) (by have := g2.size; rw [World.size_alloc] at this; show w1.heap.size ≠ w.heap.size; omega) (.int .i64 2))
  have HX2 := Lib.hid (And.intro hx2 (And.intro G3 h10))
  have hr0 := (iright_yes 2 2 sz b t m ao cap _ ((sl2_parts (HB.out.gr0 G3)).2.1) (sl2_parts HB.out).1 hr)
  rw [show ((2 : Nat) : Int) = 2 from rfl] at hr0
  have HR := Lib.hid hr0
  have l1 := g2.size
  rw [World.size_alloc] at l1
  have HL1 := Lib.hid l1
  unfold ndVal
  clear hr0 g2 G2 hx1 hx2 G3 h10 HV HG HX
  go_wp2_with fail
  clear c0 c1 c2 c3 c4 f1 l1
  generalize (((w1.alloc (Obj.cells #[.int .u8 v.k, .int .i64 v.l, .int .i64 v.s, .slice v.ao v.n v.cap, .string v.t, .pointer v.dp, .int .i64 v.up, .int .i64 v.op] 125)).setCell ⟨w.heap.size, 1, none⟩ (.int .i64 1)).setCell ⟨w.heap.size, 1, none⟩ (.int .i64 2)) = wr at *
  with_reducible refine HR.out.mono ?_
  rintro e w2 ⟨rfl, g4⟩
  have HX3 := Lib.hid (And.intro (HX2.out.1.gr0 g4) (And.intro (HX2.out.2.1.next0 g4) (HX2.out.2.2.gr0 g4)))
  clear g4 HR HX2
  obtain ⟨LL, _, hlen⟩ := (HH.out.gr0 HX3.out.2.1).keys HOK.out.toTrO
  have q0 := (HH.out.gr0 HX3.out.2.1).hd.cell 0
  have z1 : decide ((1024 : Int) ≤ (lenZ Z.T : Int)) = false := by simp; omega
  have z2 : ¬ 1024 ≤ lenZ Z.T := by omega
  have z3 : ¬ (1024 : Int) ≤ (lenZ Z.T : Int) := by omega
  have hl2 : ¬ 1000 ≤ d.l := by unfold lkT at hl; rw [HD.out.1] at hl; exact hl
  have p1 := HX3.out.2.2.cell 1
  have y1 : decide ((1000 : Int) ≤ v.l) = false := by rw [HVL.out]; simp; omega
  have y2 : ¬ (1000 : Int) ≤ v.l := by rw [HVL.out]; omega
  have HU := Lib.hid (unused_any (HH.out.gr0 HX3.out.2.1) hf)
  have HRU := Lib.hid (right_runs hr).1
  clear hf hr
  go_wp2_with fail
  with_reducible refine HU.out.mono ?_
  rintro e w3 ⟨of, rfl, hlow, g5⟩
  have hx4 := HX3.out.1.gr0 g5
  have b0 := hx4.cell 0
  have b1 := hx4.cell 1
  have b2 := hx4.cell 2
  have b3 := hx4.cell 3
  have b4 := hx4.cell 4
  have G5 := HX3.out.2.1.next0 g5
  have ga : Gr [] w3 (w3.alloc (Obj.cells #[.int .u8 2, .int .i64 2, .int .i64 sz, .slice ao m cap, .string t, .pointer none, .int .i64 0, .int .i64 0] 125)) := (Gr.refl [] w3).alloc _
  have a3 := (hx4.gr0 ga).cell 3
  have HY1 := Lib.hid (Holds.new w3 #[.int .u8 2, .int .i64 2, .int .i64 sz, .slice ao m cap, .string t, .pointer none, .int .i64 0, .int .i64 0] 125)
  have HC := Lib.hid (xclone_sl ao m cap b _ ((HB.out.gr0 G5).gr0 ga) (by have := HRU.out.1; omega))
  have HG5 := Lib.hid (And.intro G5 (G5.next0 ga))
  have HLOW := Lib.hid hlow
  clear hx4 G5 g5 ga hlow HU HX3 p1 y1 y2
  go_wp2_with fail
  with_reducible refine HC.out.mono ?_
  rintro e w4 ⟨ao2, cap2, rfl, hsl, hfr, g6⟩
  have hy2 := HY1.out.gr0 g6
  have y3 := hy2.cell 3
  have fz := hy2.frozen 3
  have hy3 : Holds (w4.setCell ⟨w3.heap.size, 3, none⟩ (.slice ao2 m cap2)) w3.heap.size #[.int .u8 2, .int .i64 2, .int .i64 sz, .slice ao2 m cap2, .string t, .pointer none, .int .i64 0, .int .i64 0] 125 := by
    have r := hy2.set 3 (.slice ao2 m cap2)
    simpa using r
  have G6 := HG5.out.2.next0 g6
  have gs : Gr [w3.heap.size] w4 (w4.setCell ⟨w3.heap.size, 3, none⟩ (.slice ao2 m cap2)) := (Gr.refl [w3.heap.size] w4).setCell (.inl (by simp)) _
  have hw3 := HG5.out.1.size
  have G7 := G6.nextN gs fun q hq => .inr (by rw [List.mem_singleton] at hq; omega)
  have hsl2 := hsl.gr gs fun q hq e => by
    have := hfr q hq
    rw [World.size_alloc] at this
    rw [List.mem_singleton] at e
    omega
  have hfr2 : ∀ q, (Value.slice ao2 m cap2).ownBlock = some q → q ∉ A.own ∧ q ≠ w3.heap.size := fun q hq => by
    have h1 := hfr q hq
    rw [World.size_alloc] at h1
    exact ⟨fun e => by have := HH.out.own_lt q e; omega, by omega⟩
  have HY3 := Lib.hid (And.intro hy3 (And.intro G7 (And.intro hsl2 hfr2)))
  have HW3 := Lib.hid hw3
  clear hsl hfr g6 hy2 hy3 G6 gs G7 hsl2 hfr2 hw3 HC HY1 HG5 a3 b0 b1 b2 b3 b4
  go_upto_region 18 with fail
  clear y3 fz
  generalize w4.setCell ⟨w3.heap.size, 3, none⟩ (.slice ao2 m cap2) = w5 at *
  have HN := Lib.hid (dnew_any w5)
  go_wp2_with fail
  with_reducible refine HN.out.mono ?_
  rintro e w6 ⟨D, rfl, hnb, hD, hDlo, g7⟩
  have hy4 := HY3.out.1.gr0 g7
  have y5 := hy4.cell 5
  have y6 := hy4.cell 6
  have f5 := hy4.frozen 5
  have f6 := hy4.frozen 6
  have hy5 : Holds ((w6.setCell ⟨w3.heap.size, 5, none⟩ (.pointer (some ⟨D.db, 0, none⟩))).setCell ⟨w3.heap.size, 6, none⟩ (.int .i64 n)) w3.heap.size #[.int .u8 2, .int .i64 2, .int .i64 sz, .slice ao2 m cap2, .string t, .pointer (some ⟨D.db, 0, none⟩), .int .i64 n, .int .i64 0] 125 := by
    have r := (hy4.set 5 (.pointer (some ⟨D.db, 0, none⟩))).set 6 (.int .i64 n)
    simpa using r
  have gs : Gr [w3.heap.size] w6 ((w6.setCell ⟨w3.heap.size, 5, none⟩ (.pointer (some ⟨D.db, 0, none⟩))).setCell ⟨w3.heap.size, 6, none⟩ (.int .i64 n)) := ((Gr.refl [w3.heap.size] w6).setCell (.inl (by simp)) _).setCell (.inl (by simp)) _
  have G8 := (HY3.out.2.1.next0 g7).nextN gs fun q hq => .inr (by rw [List.mem_singleton] at hq; have := HW3.out; omega)
  have hlt5 := HY3.out.1.lt
  have hsl3 := (HY3.out.2.2.1.gr0 g7).gr gs fun q hq e => by
    rw [List.mem_singleton] at e
    exact (HY3.out.2.2.2 q hq).2 e
  have hD2 := hD.gr gs fun q hq e => by rw [List.mem_singleton] at e; have := hDlo q hq; omega
  have HDD := Lib.hid (And.intro hnb (And.intro hD2 (fun q hq => show q ∉ A.own from fun e => by have h1 := HH.out.own_lt q e; have h2 := hDlo q hq; have h3 := HY3.out.2.1.size; omega)))
  have HSL := Lib.hid hsl3
  have HT5 := Lib.hid (HH.out.gr0 G8)
  have HR5 := Lib.hid (relink_any (HH.out.gr0 G8) n HW.out d HD.out.1 1 (d.l + 1) (by omega) (by omega) (by omega))
  have HY5 := Lib.hid hy5
  have HG8 := Lib.hid G8
  clear hnb hD hDlo g7 hy4 hy5 gs G8 hlt5 hsl3 hD2 HN
  go_wp2_with fail
  clear y5 y6 f5 f6
  generalize (w6.setCell ⟨w3.heap.size, 5, none⟩ (.pointer (some ⟨D.db, 0, none⟩))).setCell ⟨w3.heap.size, 6, none⟩ (.int .i64 n) = w7 at *
  with_reducible refine HR5.out.mono ?_
  rintro e w8 ⟨rfl, hT8, g8⟩
  have b14 : w3.heap.size ∉ A.own := fun e => by have := HH.out.own_lt _ e; have := HW3.out; omega
  have hy6 := HY5.out.gr g8 b14
  have hlow := HLOW.out
  have hnd : NdIs w8 A.own (Z.putN n (d.lk (d.l + 1))).nm (K + 1) (of : Int) (⟨2, 2, sz, ao2, m, cap2, t, (some ⟨D.db, 0, none⟩), n, 0⟩ : NdV) (newN 2 sz b t n) := by
    obtain ⟨e1, e2⟩ := no_names HOK.out.toTrO hlow.2.2.1
    refine ⟨rfl, rfl, rfl, rfl, rfl, HSL.out.gr g8 (fun q hq => (HY3.out.2.2.2 q hq).1), fun q hq => (HY3.out.2.2.2 q hq).1, fun _ => rfl, fun _ => ⟨D, rfl, ?_, by have := HDD.out.1; omega, HDD.out.2.2⟩, fun c => absurd rfl c⟩
    show DiIs w8 D (lkN Z.nm of) (nmsOf Z.nm of)
    rw [e1, e2]
    exact HDD.out.2.1.gr g8 HDD.out.2.2
  have HP := Lib.hid (put_any19 hT8 (of : Int) (wfZ (by omega) (by have := hlow.2.1; omega)) (⟨2, 2, sz, ao2, m, cap2, t, (some ⟨D.db, 0, none⟩), n, 0⟩ : NdV) _ hnd (by omega))
  have HG9 := Lib.hid (HG8.out.of0.trans g8)
  have q00 := hy6.cell 0
  have q10 := hy6.cell 1
  have q20 := hy6.cell 2
  have q30 := hy6.cell 3
  have q40 := hy6.cell 4
  have q50 := hy6.cell 5
  have q60 := hy6.cell 6
  have q70 := hy6.cell 7
  unfold ndVal at HP
  clear hT8 g8 hy6 hlow hnd HR5 HT5
  go_wp2_with fail
  with_reducible refine HP.out.mono ?_
  rintro e w9 ⟨rfl, hT9, g9⟩
  have hne : n ≠ (of : Int) := fun e => by have h1 := HLOW.out.2.2.1; rw [← e, HD.out.1] at h1; cases h1
  have HS9 := Lib.hid (setName_any hT9 n HW.out (d.lk (d.l + 1)) (by show updN (updN Z.T n (some (d.lk (d.l + 1)))) of (some (newN 2 sz b t n)) n = _; rw [updN_far hne, updN_same]) HD.out.2.1 s of HD.out.2.2.2.1 (by have := HLOW.out.2.1; omega) HD.out.2.2.2.2.1 (by omega))
  have HG10 := Lib.hid (HG9.out.trans g9)
  clear q00 q10 q20 q30 q40 q50 q60 q70 hT9 g9 HP hne
  go_wp2_with fail
  with_reducible refine HS9.out.mono ?_
  rintro e w10 ⟨rfl, ⟨D3, hT10⟩, g10⟩
  have HF := Lib.hid (And.intro hT10 (HG10.out.trans g10))
  clear hT10 g10 HS9
  go_wp2_with fail
  go_ret2
  have hz : Z.make n s of (newN 2 sz b t n) = (((Z.putN n (d.lk (d.l + 1))).putN (of : Int) (newN 2 sz b t n)).names (Z.nm ++ [(n, s, of)]) n s) := by
    unfold TrZ.make moreT
    rw [HD.out.1]
    rfl
  have hfin : ∃ g' : Int → NdV, TrG w10 A _ _ g' := ⟨_, HF.out.1⟩
  refine ⟨of, rfl, HLOW.out, hfin.imp fun g' q => ?_, HF.out.2⟩
  rw [hz]; exact q
end
end Go.Proofs.YtgleopahldpajaaGreat

/-
  Layer 18: strings.Cut at a slash.
-/
namespace Go.Proofs.YtgleopahldpajaaGreat
open Go.RowKit Go.Shelf

theorem ext_left (a b : List UInt8) : (bsL (a ++ b)).extract 0 a.length = bsL a := by
  apply bsL_of
  rw [ByteArray.data_extract, Array.toList_extract]
  show ((a ++ b).drop 0).take (a.length - 0) = a
  simp
theorem ext_right (a b : List UInt8) (c : UInt8) : (bsL (a ++ c :: b)).extract (a.length + 1) (a ++ c :: b).length = bsL b := by
  apply bsL_of
  rw [ByteArray.data_extract, Array.toList_extract]
  show ((a ++ c :: b).drop (a.length + 1)).take ((a ++ c :: b).length - (a.length + 1)) = b
  rw [show a ++ c :: b = (a ++ [c]) ++ b by simp, show a.length + 1 = (a ++ [c]).length by simp, List.drop_left]
  exact List.take_of_length_le (by simp; omega)

set_option maxHeartbeats 2000000 in
set_option maxRecDepth 100000 in
theorem lcut_no (s : List UInt8) (w : World) (h : 47 ∉ s) : Calls Tryz.prog 164 #[.string (bsL s), .string (bsL [47])] w fun e w' => e = .returned (.tuple #[.string (bsL s), .string (bsL []), .bool false]) ∧ w' = w := by
  go_enter Tryz.func164, Tryz.ntmps164
  go_wp2_with (go_at_call 178; refine (idx_at _ _).mono ?_; rintro e w' ⟨rfl, rfl⟩; rw [ix_none h])
  go_ret3
  exact ⟨rfl, rfl⟩
set_option maxHeartbeats 2000000 in
set_option maxRecDepth 100000 in
theorem lcut_yes (a b : List UInt8) (w : World) (h : 47 ∉ a) (hs : a.length + b.length < 4294967280) : Calls Tryz.prog 164 #[.string (bsL (a ++ 47 :: b)), .string (bsL [47])] w fun e w' => e = .returned (.tuple #[.string (bsL a), .string (bsL b), .bool true]) ∧ w' = w.drew := by
  have e1 := ext_left a (47 :: b)
  have e2 := ext_right a b 47
  have hz : (bsL (a ++ 47 :: b)).size = (a ++ 47 :: b).length := rfl
  obtain ⟨n, hn⟩ : ∃ n, n = (a ++ 47 :: b).length := ⟨_, rfl⟩
  have hn2 : n = a.length + (b.length + 1) := by rw [hn]; simp
  rw [← hn] at hz e2
  rw [hn2] at e2
  have c1 : (0 : Int) ≤ (a.length : Int) := by omega
  have c2 : (a.length : Int) ≤ (n : Int) := by omega
  have c3 : (0 : Int) ≤ (a.length : Int) + 1 := by omega
  have c4 : (a.length : Int) + 1 ≤ (n : Int) := by omega
  have u1 : IntKind.i64.wrap ((a.length : Int) + 1) = (a.length + 1 : Nat) := by rw [IntWalk.i64_in _ (by omega)]; omega
  have z1 : (bsL [47]).size = 1 := rfl
  have mixed : Tryz.prog.follows .mixedOrders = true := by kernel_rfl
  go_enter Tryz.func164, Tryz.ntmps164
  go_wp2_with (go_at_call 178; refine (idx_at _ _).mono ?_; rintro e w' ⟨rfl, rfl⟩; rw [ix_some h])
  go_region_o
  go_wp2
  go_ret3
  exact ⟨rfl, rfl⟩
theorem cut_no (s : List UInt8) (w : World) (h : 47 ∉ s) : Calls Tryz.prog 138 #[.string (bsL s), .string (bsL [47])] w fun e w' => e = .returned (.tuple #[.string (bsL s), .string (bsL []), .bool false]) ∧ w' = w := by
  go_enter Tryz.func138, Tryz.ntmps138
  go_wp2_with (go_at_call 164; refine (lcut_no _ _ h).mono ?_; rintro e w' ⟨rfl, rfl⟩)
  go_ret3
  exact ⟨rfl, rfl⟩
theorem cut_yes (a b : List UInt8) (w : World) (h : 47 ∉ a) (hs : a.length + b.length < 4294967280) : Calls Tryz.prog 138 #[.string (bsL (a ++ 47 :: b)), .string (bsL [47])] w fun e w' => e = .returned (.tuple #[.string (bsL a), .string (bsL b), .bool true]) ∧ w' = w.drew := by
  go_enter Tryz.func138, Tryz.ntmps138
  go_wp2_with (go_at_call 164; refine (lcut_yes _ _ _ h hs).mono ?_; rintro e w' ⟨rfl, rfl⟩)
  go_ret3
  exact ⟨rfl, rfl⟩

end Go.Proofs.YtgleopahldpajaaGreat

/-
  Layer 18: a slice of strings, read.
-/
namespace Go.Proofs.YtgleopahldpajaaGreat
open Go.RowKit

theorem infoStr : (Tryz.prog.info? 9).map (fun i => (i.zero, i.size, i.bytes)) = some (some (.string ⟨#[]⟩), 1, 16) := by kernel_rfl
/-- The cells from an address on read as strings. -/
def RdS (w : World) (ao : Option Addr) (L : List (List UInt8)) : Prop :=
  ∀ i x, L[i]? = some x → ∃ k o, ao = some ⟨k, o, none⟩ ∧ k < w.heap.size ∧ w.cell? ⟨k, o + i, none⟩ = some (sv x)
theorem RdS.gr0 {w w' : World} {ao : Option Addr} {L : List (List UInt8)} (h : RdS w ao L) (g : Gr [] w w') : RdS w' ao L := fun i x hi => by
  obtain ⟨k, o, h1, h2, h3⟩ := h i x hi
  exact ⟨k, o, h1, Nat.lt_of_lt_of_le h2 g.size, (g.cell0 h2).trans h3⟩
theorem RdS.nil (w : World) (ao : Option Addr) : RdS w ao [] := fun i x hi => by simp at hi
theorem RdS.cell {w : World} {k o : Nat} {L : List (List UInt8)} (h : RdS w (some ⟨k, o, none⟩) L) {i : Nat} {x : List UInt8} (hi : L[i]? = some x) : w.cell? ⟨k, o + i, none⟩ = some (sv x) ∧ k < w.heap.size := by
  obtain ⟨k', o', h1, h2, h3⟩ := h i x hi
  cases h1
  exact ⟨h3, h2⟩
def SlS (w : World) (v : Value) (L : List (List UInt8)) : Prop :=
  ∃ ao cap, v = .slice ao L.length cap ∧ RdS w ao L ∧ L.length ≤ cap ∧ cap ≤ maxLen ∧ (ao = none → cap = 0)
theorem SlS.gr0 {w w' : World} {v : Value} {L : List (List UInt8)} (h : SlS w v L) (g : Gr [] w w') : SlS w' v L := by
  obtain ⟨ao, cap, h1, h2, h3⟩ := h
  exact ⟨ao, cap, h1, h2.gr0 g, h3⟩
theorem SlS.nil (w : World) : SlS w (.slice none 0 0) [] := ⟨none, 0, rfl, RdS.nil _ _, Nat.le_refl _, Nat.zero_le _, fun _ => rfl⟩
theorem SlS.some {w : World} {ao : Option Addr} {n cap : Nat} {L : List (List UInt8)} (h : SlS w (.slice ao n cap) L) : n = L.length ∧ RdS w ao L ∧ n ≤ cap ∧ cap ≤ maxLen ∧ (ao = none → cap = 0) := by
  obtain ⟨a, c, h1, h2, h3, h4, h5⟩ := h
  cases h1
  exact ⟨rfl, h2, h3, h4, h5⟩
/-- Where there is one, it has an address. -/
theorem SlS.addr {w : World} {ao : Option Addr} {n cap : Nat} {L : List (List UInt8)} (h : SlS w (.slice ao n cap) L) (hL : L ≠ []) : ∃ k o, ao = Option.some ⟨k, o, none⟩ ∧ k < w.heap.size := by
  obtain ⟨h1, h2, _⟩ := h.some
  cases L with
  | nil => exact absurd rfl hL
  | cons x r =>
    obtain ⟨k, o, q1, q2, _⟩ := h2 0 x rfl
    exact ⟨k, o, q1, q2⟩
theorem SlS.addr' {w : World} {ao : Option Addr} {n cap : Nat} {L : List (List UInt8)} (h : SlS w (.slice ao n cap) L) {k : Nat} {x : List UInt8} (hx : L[k]? = Option.some x) : ∃ b o, ao = Option.some ⟨b, o, none⟩ ∧ b < w.heap.size :=
  h.addr (fun e => by rw [e] at hx; simp at hx)
theorem own_slS {w : World} {base : Nat} {e : TypeId} {n : Nat} {v : Value} {L : List (List UInt8)} (h : w.ownsRow base e 1 v n (L.map sv)) : SlS w v L := by
  have hn : n = L.length := by have := h.1; simp at this; omega
  subst hn
  rcases h.2 with ⟨rfl, h0⟩ | ⟨g, cap, cur, rfl, hg, hh, hc, hm, hs, ht⟩
  · obtain rfl := List.length_eq_zero_iff.1 h0
    exact SlS.nil w
  · have h' : w.ownsRow base e 1 (.slice (some ⟨g, 0, none⟩) L.length cap) L.length (L.map sv) := h
    refine ⟨_, cap, rfl, fun i x hi => ?_, hc, hm, fun e => by cases e⟩
    have hlt := (List.getElem?_eq_some_iff.1 hi).1
    refine ⟨g, 0, rfl, (Array.getElem?_eq_some_iff.1 hh).1, ?_⟩
    rw [Nat.zero_add, h'.cellAt i (by omega)]
    simp [hi]

end Go.Proofs.YtgleopahldpajaaGreat

/-
  Layer 18: the parts of a path, one by one (an iterator).
-/
namespace Go.Proofs.YtgleopahldpajaaGreat
open Go.RowKit Go.Shelf

attribute [local go_sem] Oper.semAt_some

def leftV : Value → Value → Nat
  | .string b, .bool true => b.size + 1
  | _, _ => 0

set_option maxRecDepth 100000 in
set_option maxHeartbeats 4000000 in
theorem parts1_in (n : Nat) (hn : 1 ≤ n) (l Bn n₀ B0 : Nat) (s : List UInt8) (hs : s.length < 4294967280) (J Jx : List (List UInt8) → World → Prop) (hJ : AbidesFrom B0 J)
    (hY : ∀ pre x W, J pre W → pre.length < (partsP s).length → YieldAt Fence.wide (n - 1) Tryz.prog l #[.string (bsL x)] W fun e W' =>
      (e = .returned (.bool true) ∧ J (pre ++ [x]) W' ∧ Below n₀ W W') ∨ (e = .returned (.bool false) ∧ Jx (pre ++ [x]) W'))
    (W : World) (hBn : W.cell? ⟨Bn, 0, none⟩ = some (.string (bsL s))) (h0 : J [] W) :
    CallsIn Fence.wide n Tryz.prog 137 #[.func (.yield l) #[] #[], .pointer (some ⟨Bn, 0, none⟩)] W fun e W' => (∃ v, e = .returned v) ∧
      ((∃ ys, ys = partsP s ∧ J ys W') ∨ (∃ pre, pre <+: partsP s ∧ Jx pre W')) := by
  refine callsIn_of_wp Tryz.func137 rfl trivial ?_ rfl
  simp only [Tryz.ntmps137, List.size_toArray, List.length_cons, List.length_nil, Nat.reduceAdd, Nat.reduceSub, Array.replicate_succ, Array.replicate_zero, List.push_toArray, List.append_toArray, List.nil_append, List.cons_append]
  gi_wp2
  gi_loopw [3, 4, 5] (fun r m _ wr => ∃ (P : List (List UInt8)) (rest : List UInt8) (more : Bool), r = .string (bsL rest) ∧ m = .bool more ∧ pg [] s = P ++ (if more then pg [] rest else []) ∧ rest.length ≤ s.length ∧ J (P.filter keepP) wr)
    (fun r m _ _ => leftV r m)
  case atStart => exact ⟨[], s, true, rfl, rfl, by simp, Nat.le_refl _, h0⟩
  case round =>
    obtain ⟨P, rest, more, rfl, rfl, hpg, hrl, hj⟩ := hrel
    cases more with
    | false =>
      have hq : partsP s = P.filter keepP := by unfold partsP; rw [hpg]; simp
      gi_wp2
      go_end0
      exact ⟨⟨_, rfl⟩, .inl ⟨_, hq.symm, hj⟩⟩
    | true =>
      simp only [if_true] at hpg
      obtain ⟨a, b, m, w1, hcut, hst, hme, hbl, hj1⟩ : ∃ (a b : List UInt8) (m : Bool) (w1 : World), Calls Tryz.prog 138 #[.string (bsL rest), .string (bsL [47])] wr (fun e w' => e = .returned (.tuple #[.string (bsL a), .string (bsL b), .bool m]) ∧ w' = w1) ∧ pg [] s = (P ++ [a]) ++ (if m then pg [] b else []) ∧ leftV (.string (bsL b)) (.bool m) < leftV (.string (bsL rest)) (.bool true) ∧ b.length ≤ s.length ∧ J (P.filter keepP) w1 := by
        rcases first_cut rest with h | ⟨a, b, rfl, h⟩
        · exact ⟨rest, [], false, wr, cut_no rest wr h, by rw [hpg, pg_clean h]; simp, by show 0 < rest.length + 1; omega, by simp, hj⟩
        · simp at hrl
          refine ⟨a, b, true, wr.drew, cut_yes a b wr h (by omega), by rw [hpg, pg_cut h]; simp, ?_, by omega, hJ _ _ _ none hj ?_ (fun r e => by cases e)⟩
          · show (bsL b).size + 1 < (bsL (a ++ 47 :: b)).size + 1
            rw [bsL_size, bsL_size]; simp; omega
          · exact ⟨rfl, rfl, rfl, Nat.le_refl _, fun _ _ _ => rfl⟩
      have HC := Lib.hid hcut
      have HS := Lib.hid hst
      have HM := Lib.hid hme
      clear hcut hst hme hj hpg
      have hl := bsL_list a
      by_cases ha : keepP a = true
      · have hx : a ≠ [] ∧ a ≠ [46] := by simpa [keepP] using ha
        have HP := Lib.hid (show partsP s = P.filter keepP ++ a :: ((if m then pg [] b else []).filter keepP) by
          unfold partsP; rw [HS.out]; simp [ha])
        have HF := Lib.hid (show (P ++ [a]).filter keepP = P.filter keepP ++ [a] by simp [ha])
        obtain ⟨fn, tmps, assign, body, hy, hR⟩ := hY _ a w1 hj1 (by rw [HP.out]; simp)
        obtain ⟨hx1, hx2⟩ := hx
        have f0 : a.isEmpty = false := by simpa using hx1
        have f1 : (a == [46]) = false := by simpa using hx2
        gi_wp2_with (refine ⟨trivial, ?_⟩; gi_at_call 138; refine (callsIn_wide.2 HC.out).mono ?_; rintro e w' ⟨rfl, rfl⟩)
        refine hR.mono ?_
        rintro e W3 (⟨rfl, hJ3, hk3⟩ | ⟨rfl, hJx3⟩)
        · gi_wp2
          go_roundw
          case rel => exact ⟨P ++ [a], b, m, rfl, rfl, HS.out, hbl, by rw [HF.out]; exact hJ3⟩
          case measure => exact HM.out
        · gi_wp2
          refine bodyPost_ret (results_none rfl _ _ _) rfl ?_
          exact ⟨⟨_, rfl⟩, .inr ⟨P.filter keepP ++ [a], by rw [HP.out]; exact ⟨(if m then pg [] b else []).filter keepP, by simp⟩, hJx3⟩⟩
      · have hx : a = [] ∨ a = [46] := by
          simp [keepP] at ha
          by_cases h : a = []
          · exact .inl h
          · exact .inr (ha h)
        have HF := Lib.hid (show (P ++ [a]).filter keepP = P.filter keepP by simp [ha])
        rcases hx with rfl | rfl
        · gi_wp2_with (refine ⟨trivial, ?_⟩; gi_at_call 138; refine (callsIn_wide.2 HC.out).mono ?_; rintro e w' ⟨rfl, rfl⟩)
          refine ⟨fun _ h => (by cases h), ?_⟩
          gi_wp2
          go_roundw
          case rel => exact ⟨P ++ [[]], b, m, rfl, rfl, HS.out, hbl, by rw [HF.out]; exact hj1⟩
          case measure => exact HM.out
        · gi_wp2_with (refine ⟨trivial, ?_⟩; gi_at_call 138; refine (callsIn_wide.2 HC.out).mono ?_; rintro e w' ⟨rfl, rfl⟩)
          refine ⟨fun _ h => (by cases h), ?_⟩
          gi_wp2
          go_roundw
          case rel => exact ⟨P ++ [[46]], b, m, rfl, rfl, HS.out, hbl, by rw [HF.out]; exact hj1⟩
          case measure => exact HM.out

theorem parts_in (n : Nat) (s : List UInt8) (w : World) :
    CallsIn Fence.wide n Tryz.prog 79 #[.string (bsL s)] w fun e w' => e = .returned (.func (.func 137) #[] #[.pointer (some ⟨w.heap.size, 0, none⟩)]) ∧ w' = w.alloc (.cells #[.string (bsL s)] 9) := by
  refine callsIn_of_wp Tryz.func79 rfl trivial ?_ rfl
  simp only [Tryz.ntmps79, List.size_toArray, List.length_cons, List.length_nil, Nat.reduceAdd, Nat.reduceSub, Array.replicate_succ, Array.replicate_zero, List.push_toArray, List.append_toArray, List.nil_append, List.cons_append]
  gi_wp2
  go_ret
  exact ⟨rfl, rfl⟩
/-- What path.parts hands back visits the parts that lead somewhere. -/
theorem parts_stops (n : Nat) (hn : 1 ≤ n) (Bn n₀ : Nat) (s : List UInt8) (hs : s.length < 4294967280) (w : World) (hBn : Bn < w.heap.size) (hc : w.cell? ⟨Bn, 0, none⟩ = some (.string (bsL s))) :
    SeqStopsK Fence.wide n Tryz.prog 137 #[.pointer (some ⟨Bn, 0, none⟩)] (fun x : List UInt8 => #[Value.string (bsL x)]) (Below n₀) (fun ys => ys = partsP s) (fun pre => pre <+: partsP s) (partsP s).length w := fun l J Jx W hW hJ _ hY h0 =>
  parts1_in n hn l Bn n₀ _ s hs J Jx hJ hY W ((hW.cell (p := ⟨Bn, 0, none⟩) hBn).trans hc) h0

end Go.Proofs.YtgleopahldpajaaGreat
