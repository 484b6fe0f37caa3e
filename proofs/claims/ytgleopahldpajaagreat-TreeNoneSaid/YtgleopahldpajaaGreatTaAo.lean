/-
  TaAo: TrN, TrQ.
-/
import Derived.Test.YtgleopahldpajaaGreatTaAn
import Derived.Test.YtgleopahldpajaaGreatTaAf
import Derived.Shelf.SlIterI.Nil
import Derived.Shelf.SortM.Plain
import Derived.Shelf.SortM.SortNone
import Derived.Ground.GgzProg
import Derived.Ground.SlgmProg

set_option linter.unusedVariables false

/-
  Layer 19 (tree): a way over a tree that has no Links, from the root.
-/
set_option linter.unusedSimpArgs false
namespace Go.Proofs.YtgleopahldpajaaGreat
open Go.RowKit
set_option linter.unusedVariables false
/-- Where parts lead, no Link being there. -/
def stepsZ (T : Int → Option NdZ) (nm : List NmZ) : Int → List (List UInt8) → Int × Int
  | n, [] => (n, 0)
  | n, p :: r => if (lookZ T nm n p).2 = 0 then stepsZ T nm (lookZ T nm n p).1 r else (0, (lookZ T nm n p).2)
theorem fld_inode (v : NdV) (W : World) : (Instr.field 125 (.agg #[.int .u8 v.k, .int .i64 v.l, .int .i64 v.s, .slice v.ao v.n v.cap, .string v.t, .pointer v.dp, .int .i64 v.up, .int .i64 v.op]) 0).run Tryz.prog W = .ok (.agg #[.int .u8 v.k, .int .i64 v.l, .int .i64 v.s, .slice v.ao v.n v.cap, .string v.t]) W := by kernel_rfl
theorem fld_kind (v : NdV) (W : World) : (Instr.field 42 (.agg #[.int .u8 v.k, .int .i64 v.l, .int .i64 v.s, .slice v.ao v.n v.cap, .string v.t]) 0).run Tryz.prog W = .ok (.int .u8 v.k) W := by kernel_rfl
theorem fld_names (v : NdV) (W : World) : (Instr.field 125 (.agg #[.int .u8 v.k, .int .i64 v.l, .int .i64 v.s, .slice v.ao v.n v.cap, .string v.t, .pointer v.dp, .int .i64 v.up, .int .i64 v.op]) 1).run Tryz.prog W = .ok (.pointer v.dp) W := by kernel_rfl
section
variable {w w' w2 : World} {A : TrA} {Z : TrZ} {K : Nat} {g : Int → NdV} {n : Int} {x : NdZ} {v : NdV}
theorem kind_look (h : TrG w A Z K g) {m : Int} (hm : (Z.T m).isSome = true) (hk : ∀ n x, Z.T n = some x → x.k ≠ 3) : ∃ u : NdV, ndE.val ((gT g Z.T m).getD ndE.zero) = .agg #[.int .u8 u.k, .int .i64 u.l, .int .i64 u.s, .slice u.ao u.n u.cap, .string u.t, .pointer u.dp, .int .i64 u.up, .int .i64 u.op] ∧ (u.k == 3) = false ∧ ¬ u.k = 3 := by
  obtain ⟨y, hy⟩ := Option.isSome_iff_exists.1 hm
  have h1 := (h.nd m y hy).k
  have h2 := hk m y hy
  refine ⟨g m, by rw [gT_some hy]; rfl, ?_, by omega⟩
  simp; omega
set_option maxRecDepth 20000 in
set_option maxHeartbeats 4000000 in
theorem resolve_nl (h : TrG w A Z K g) (ok : TrO Z.T Z.nm) (hk : ∀ n x, Z.T n = some x → x.k ≠ 3) (L : List (List UInt8)) (hL : L.length ≤ 1000) (hp : ∀ p ∈ L, p.length ≤ 1000) (ao : Option Addr) (cap : Nat) (hs : SlS w (.slice ao L.length cap) L) (n : Int) (kb : Nat) (la : Bool) (hw : Holds w kb #[.pointer (some ⟨A.tb, 0, none⟩), .bool la, .int .i64 0] 181) :
    Calls Tryz.prog 83 #[.pointer (some ⟨kb, 0, none⟩), .int .i64 n, .agg #[.bool true, .slice ao L.length cap, .bool false], .bool true, .bool false] w fun e w' => e = .returned (.tuple #[.int .i64 (stepsZ Z.T Z.nm 1 L).1, .int .i64 (stepsZ Z.T Z.nm 1 L).2]) ∧ Gr [] w w' := by
  have g1 : Gr [] w (w.alloc (Obj.cells #[.bool true, .slice ao L.length cap, .bool false] 52)) := (Gr.refl [] w).alloc _
  have hb := Holds.new w #[.bool true, .slice ao L.length cap, .bool false] 52
  have r1 : (Z.T 1).isSome = true := by obtain ⟨x, hx, _⟩ := ok.root; rw [hx]; rfl
  have HH := Lib.hid (And.intro h (And.intro ok (And.intro hk (And.intro r1 (And.intro hp (And.intro hs hw))))))
  have HB := Lib.hid hb
  have HG := Lib.hid g1
  have c0 := hb.cell 0
  have c1 := hb.cell 1
  have c2 := hb.cell 2
  obtain ⟨m, hm⟩ : ∃ m, m = L.length := ⟨_, rfl⟩
  have HM := Lib.hid hm
  rw [← hm] at HB HG hL c0 c1 c2 ⊢
  clear hm h ok hk r1 hp hs hw g1 hb
  go_enter Tryz.func83, Tryz.ntmps83
  go_wp2_with fail
  go_loopw [27, 1] (fun i a wr => ∃ (j : Nat) (at0 : Int), j ≤ m ∧ i = .int .i64 (j : Int) ∧ a = .int .i64 at0 ∧ (Z.T at0).isSome = true ∧ Hid (stepsZ Z.T Z.nm 1 L = stepsZ Z.T Z.nm at0 (L.drop j)) ∧ Gr [] (w.alloc (Obj.cells #[.bool true, .slice ao m cap, .bool false] 52)) wr) (fun i _ _ => m - (intOf i).toNat)
  case atStart => exact ⟨0, 1, by omega, rfl, rfl, HH.out.2.2.2.1, Lib.hid rfl, Gr.refl _ _⟩
  case round =>
    obtain ⟨j, at0, hj, rfl, rfl, hat, HE, G⟩ := hrel
    have hb := HB.out.gr0 G
    have b1 := hb.cell 1
    have b2 := hb.cell 2
    have hT := (HH.out.1.gr0 HG.out).gr0 G
    have hwk := (HH.out.2.2.2.2.2.2.gr0 HG.out).gr0 G
    have w0 := hwk.cell 0
    have w1 := hwk.cell 1
    have HT := Lib.hid hT
    have HWK := Lib.hid hwk
    have HG2 := Lib.hid G
    have HBR := Lib.hid hb
    have hwf : WfZ at0 := by obtain ⟨y, hy⟩ := Option.isSome_iff_exists.1 hat; have := HH.out.2.1.rng _ y hy; exact wfZ (by omega) (by omega)
    by_cases hjm : j < m
    · obtain ⟨p, hpj⟩ : ∃ p, L[j]? = some p := ⟨_, List.getElem?_eq_getElem (by have := HM.out; omega)⟩
      have hpm := List.mem_of_getElem? hpj
      obtain ⟨kb2, o2, hao, hk2⟩ := HH.out.2.2.2.2.2.1.addr' hpj
      have hcell := (((HH.out.2.2.2.2.2.1.some).2.1.gr0 HG.out).gr0 G)
      subst hao
      have pc := (hcell.cell hpj).1
      have HLK := Lib.hid (look_any hT at0 hwf p (HH.out.2.2.2.2.1 p hpm) kb #[] w0)
      have l1 : (j : Int) < (m : Int) := by omega
      have u1 : IntKind.i64.wrap ((m : Int) - 1) = (m : Int) - 1 := IntWalk.i64_in _ (by omega)
      have hdr : L.drop j = p :: L.drop (j + 1) := by
        rw [List.drop_eq_getElem_cons (by have := HM.out; omega)]
        rw [List.getElem?_eq_some_iff] at hpj
        rw [hpj.2]
      have HDR := Lib.hid hdr
      clear hb hT hwk G hcell hdr hpj hk2 hpm
      unfold sv at pc
      go_wp2_with fail
      with_reducible refine HLK.out.mono ?_
      rintro e w3 ⟨rfl, g3⟩
      have HG3 := Lib.hid (HG2.out.next0 g3)
      have hT3 := HT.out.gr0 g3
      have v0 := (HWK.out.gr0 g3).cell 0
      have v1 := (HWK.out.gr0 g3).cell 1
      have c03 := hT3.hd.cell 0
      obtain ⟨r, hr⟩ : ∃ r, r = lookZ Z.T Z.nm at0 p := ⟨_, rfl⟩
      have HR := Lib.hid hr
      rw [← hr]
      rcases lookZ_is HH.out.2.1 at0 p with ⟨q1, q2⟩ | ⟨q1, q2⟩
      · rw [← hr] at q1 q2
        have HF := Lib.hid (show stepsZ Z.T Z.nm 1 L = (0, r.2) by rw [HE.out, HDR.out]; show (if (lookZ Z.T Z.nm at0 p).2 = 0 then _ else _) = _; rw [← HR.out, if_neg q1])
        have e1 : (r.2 != 0) = true := by simp [q1]
        have e2 : (r.2 == 0) = false := by simp [q1]
        clear g3 hT3 hr q1 q2 HLK w0 w1 b1 b2
        go_wp2_with fail
        go_ret2
        exact ⟨by rw [HF.out]; rfl, HG.out.trans HG3.out⟩
      · rw [← hr] at q1 q2
        have hwf2 : WfZ r.1 := by obtain ⟨y, hy⟩ := Option.isSome_iff_exists.1 q2; have := HH.out.2.1.rng _ y hy; exact wfZ (by omega) (by omega)
        obtain ⟨u, hu, hu3, hu4⟩ := kind_look hT3 q2 HH.out.2.2.1
        have HU := Lib.hid hu
        have HWF2 := Lib.hid hwf2
        have HM3 := Lib.hid hT3.nodes
        have HN := Lib.hid (show stepsZ Z.T Z.nm 1 L = stepsZ Z.T Z.nm r.1 (L.drop (j + 1)) by rw [HE.out, HDR.out]; show (if (lookZ Z.T Z.nm at0 p).2 = 0 then _ else _) = _; rw [← HR.out, if_pos q1])
        have HQ := Lib.hid q2
        have fi := fld_inode u
        have fk := fld_kind u
        clear g3 hT3 hr q2 HLK w0 w1 b1 b2 hu hwf2
        go_wp2_with (at_lookup; refine wp_lookZs rfl _ _ rfl rfl HM3.out undInt19 undNodes r.1 rfl HWF2.out _ HU.out ?_)
        go_roundw

        case rel => exact ⟨j + 1, r.1, by omega, by go_num, rfl, HQ.out, HN, HG3.out⟩
        case measure => simp [intOf]; omega
    · obtain rfl : j = m := by omega
      have HF := Lib.hid (show stepsZ Z.T Z.nm 1 L = (at0, 0) by rw [HE.out, HM.out, List.drop_length]; rfl)
      have l1 : ¬ (j : Int) < (j : Int) := by omega
      clear hb hT hwk G hjm
      go_wp2_with fail
      go_ret2
      exact ⟨by rw [HF.out]; rfl, HG.out.trans HG2.out⟩
end
end Go.Proofs.YtgleopahldpajaaGreat

/-
  Layer 19 (tree): changed names sorted, changed numbers sorted.
-/
namespace Go.Proofs.YtgleopahldpajaaGreat
open Go.RowKit Go.Shelf
set_option linter.unusedVariables false
def TrQ.srt_ren : Go.Shelf.Ren := ⟨fun | 6 => 112 | 15 => 146 | 14 => 155 | 28 => 176 | 29 => 177 | 20 => 180 | 21 => 181 | 22 => 182 | 23 => 183 | 24 => 184 | 25 => 185 | 26 => 186 | 27 => 187 | 46 => 211 | 47 => 203 | 48 => 204 | 49 => 212 | 50 => 213 | 57 => 224 | n => n, fun | 22 => 132 | 24 => 135 | 25 => 140 | 3 => 3 | 39 => 240 | 0 => 0 | 53 => 260 | 55 => 262 | 4 => 4 | 46 => 254 | 45 => 253 | 50 => 141 | 5 => 5 | 9 => 9 | 66 => 283 | 70 => 287 | 76 => 298 | 77 => 61 | n => n, fun | n => n⟩
theorem TrQ.srt : Go.Proofs.SlLaysF0.n6 Tryz.prog TrQ.srt_ren where
  mixed := by kernel_rfl
  f6 := ⟨ "slices.SortFunc[[]gabion/tree.spot,gabion/tree.spot]", by decide, Tryz.func112.trans (congrArg some (by kernel_rfl))⟩
  f14 := ⟨ "slices.pdqsortCmpFunc[gabion/tree.spot]", by decide, Tryz.func155.trans (congrArg some (by kernel_rfl))⟩
  f15 := Tryz.func146.trans (congrArg some (by kernel_rfl))
  f20 := ⟨ "slices.insertionSortCmpFunc[gabion/tree.spot]", by decide, Tryz.func180.trans (congrArg some (by kernel_rfl))⟩
  f21 := ⟨ "slices.heapSortCmpFunc[gabion/tree.spot]", by decide, Tryz.func181.trans (congrArg some (by kernel_rfl))⟩
  f22 := ⟨ "slices.breakPatternsCmpFunc[gabion/tree.spot]", by decide, Tryz.func182.trans (congrArg some (by kernel_rfl))⟩
  f23 := ⟨ "slices.choosePivotCmpFunc[gabion/tree.spot]", by decide, Tryz.func183.trans (congrArg some (by kernel_rfl))⟩
  f24 := ⟨ "slices.reverseRangeCmpFunc[gabion/tree.spot]", by decide, Tryz.func184.trans (congrArg some (by kernel_rfl))⟩
  f25 := ⟨ "slices.partialInsertionSortCmpFunc[gabion/tree.spot]", by decide, Tryz.func185.trans (congrArg some (by kernel_rfl))⟩
  f26 := ⟨ "slices.partitionEqualCmpFunc[gabion/tree.spot]", by decide, Tryz.func186.trans (congrArg some (by kernel_rfl))⟩
  f27 := ⟨ "slices.partitionCmpFunc[gabion/tree.spot]", by decide, Tryz.func187.trans (congrArg some (by kernel_rfl))⟩
  f28 := Tryz.func176.trans (congrArg some (by kernel_rfl))
  f29 := Tryz.func177.trans (congrArg some (by kernel_rfl))
  f46 := ⟨ "slices.siftDownCmpFunc[gabion/tree.spot]", by decide, Tryz.func211.trans (congrArg some (by kernel_rfl))⟩
  f47 := Tryz.func203.trans (congrArg some (by kernel_rfl))
  f48 := Tryz.func204.trans (congrArg some (by kernel_rfl))
  f49 := ⟨ "slices.medianAdjacentCmpFunc[gabion/tree.spot]", by decide, Tryz.func212.trans (congrArg some (by kernel_rfl))⟩
  f50 := ⟨ "slices.medianCmpFunc[gabion/tree.spot]", by decide, Tryz.func213.trans (congrArg some (by kernel_rfl))⟩
  f57 := ⟨ "slices.order2CmpFunc[gabion/tree.spot]", by decide, Tryz.func224.trans (congrArg some (by kernel_rfl))⟩
  t0 := Tryz.underlying0
  a0 := Tryz.isAgg0
  z0 := Tryz.sizeOf0
  v0 := Tryz.zeroValue0
  t3 := Tryz.underlying3
  a3 := Tryz.isAgg3
  z3 := Tryz.sizeOf3
  v3 := Tryz.zeroValue3
  t4 := Tryz.underlying4
  a4 := Tryz.isAgg4
  z4 := Tryz.sizeOf4
  v4 := Tryz.zeroValue4
  t5 := Tryz.underlying5
  a5 := Tryz.isAgg5
  z5 := Tryz.sizeOf5
  v5 := Tryz.zeroValue5
  t9 := Tryz.underlying9
  a9 := Tryz.isAgg9
  z9 := Tryz.sizeOf9
  v9 := Tryz.zeroValue9
  t22 := Tryz.underlying132
  a22 := Tryz.isAgg132
  z22 := Tryz.sizeOf132
  v22 := Tryz.zeroValue132
  t25 := Tryz.underlying140
  a25 := Tryz.isAgg140
  z25 := Tryz.sizeOf140
  v25 := Tryz.zeroValue140
  t39 := Tryz.underlying240
  a39 := Tryz.isAgg240
  z39 := Tryz.sizeOf240
  v39 := Tryz.zeroValue240
  t45 := Tryz.underlying253
  a45 := Tryz.isAgg253
  z45 := Tryz.sizeOf253
  v45 := Tryz.zeroValue253
  t46 := Tryz.underlying254
  a46 := Tryz.isAgg254
  z46 := Tryz.sizeOf254
  v46 := Tryz.zeroValue254
  t50 := Tryz.underlying141
  a50 := Tryz.isAgg141
  z50 := Tryz.sizeOf141
  v50 := Tryz.zeroValue141
  t53 := Tryz.underlying260
  a53 := Tryz.isAgg260
  z53 := Tryz.sizeOf260
  v53 := Tryz.zeroValue260
  t55 := Tryz.underlying262
  a55 := Tryz.isAgg262
  z55 := Tryz.sizeOf262
  v55 := Tryz.zeroValue262
  t66 := Tryz.underlying283
  a66 := Tryz.isAgg283
  z66 := Tryz.sizeOf283
  v66 := Tryz.zeroValue283
  t70 := Tryz.underlying287
  a70 := Tryz.isAgg287
  z70 := Tryz.sizeOf287
  v70 := Tryz.zeroValue287
  t76 := Tryz.underlying298
  a76 := Tryz.isAgg298
  z76 := Tryz.sizeOf298
  v76 := Tryz.zeroValue298
  t77 := Tryz.underlying61
  a77 := Tryz.isAgg61
  z77 := Tryz.sizeOf61
  v77 := Tryz.zeroValue61
theorem TrQ.fSrt : TrQ.srt_ren.f 6 = 112 := rfl
/-! ### How two places compare -/
def cmpI (x y : Int) : Int := if x < y then -1 else if y < x then 1 else 0
def cmpSp (x y : Int × ByteArray) : Int := if cmpI x.1 y.1 = 0 then cmpT x.2 y.2 else cmpI x.1 y.1
/-- The order of places. -/
def spLt (x y : Int × ByteArray) : Prop := x.1 < y.1 ∨ (x.1 = y.1 ∧ x.2.data.toList < y.2.data.toList)
theorem cmpT_lt (x y : ByteArray) : cmpT x y < 0 ↔ x.data.toList < y.data.toList := by
  have := cmpT_neg x y
  unfold Go.Sort.ltStr at this
  constructor
  · intro h; rw [decide_eq_true h] at this; exact of_decide_eq_true this.symm
  · intro h; rw [decide_eq_true h] at this; exact of_decide_eq_true this
theorem cmpSp_lt (x y : Int × ByteArray) : cmpSp x y < 0 ↔ spLt x y := by
  unfold cmpSp spLt cmpI
  by_cases h1 : x.1 < y.1
  · rw [if_pos h1]
    simp [h1]
  · by_cases h2 : y.1 < x.1
    · rw [if_neg h1, if_pos h2]
      have : ¬ x.1 = y.1 := by omega
      simp [h1, this]
    · rw [if_neg h1, if_neg h2, if_pos rfl, cmpT_lt]
      have : x.1 = y.1 := by omega
      simp [this]
theorem ltOf_sp (x y : Int × ByteArray) : ltOf cmpSp x y = true ↔ spLt x y := by
  show decide (cmpSp x y < 0) = true ↔ _
  rw [decide_eq_true_iff, cmpSp_lt]
theorem ltOf_spF (x y : Int × ByteArray) : ltOf cmpSp x y = false ↔ ¬ spLt x y := by
  rw [← Bool.not_eq_true, ltOf_sp]
theorem swoSp : Go.Sort.SWO (ltOf cmpSp) where
  irrefl x := by
    rw [ltOf_spF]
    rintro (h | ⟨_, h⟩)
    · omega
    · exact List.lt_irrefl _ h
  trans x y z h1 h2 := by
    rw [ltOf_sp] at *
    rcases h1 with a | ⟨a, a2⟩ <;> rcases h2 with b | ⟨b, b2⟩
    · exact .inl (by omega)
    · exact .inl (by omega)
    · exact .inl (by omega)
    · exact .inr ⟨by omega, List.lt_trans a2 b2⟩
  ntrans x y z h1 h2 := by
    rw [ltOf_spF] at *
    rintro (c | ⟨c, c2⟩)
    · by_cases d : x.1 < y.1
      · exact h1 (.inl d)
      · exact h2 (.inl (by omega))
    · by_cases d : x.1 < y.1
      · exact h1 (.inl d)
      · by_cases e : y.1 < z.1
        · exact h2 (.inl e)
        · have e1 : x.1 = y.1 := by omega
          have e2 : y.1 = z.1 := by omega
          have n1 : ¬ x.2.data.toList < y.2.data.toList := fun q => h1 (.inr ⟨e1, q⟩)
          have n2 : ¬ y.2.data.toList < z.2.data.toList := fun q => h2 (.inr ⟨e2, q⟩)
          exact absurd c2 (List.not_lt.2 (List.le_trans (List.not_lt.1 n2) (List.not_lt.1 n1)))
set_option maxRecDepth 100000 in
theorem isnani_any (x : Int) (W : World) : Calls Tryz.prog 156 #[.int .i64 x] W fun e w' => e = .returned (.bool false) ∧ w' = W := by
  go_enter Tryz.func156, Tryz.ntmps156
  go_wp2_with fail
  go_ret
  exact ⟨rfl, rfl⟩
set_option maxRecDepth 100000 in
theorem cmpi_any (x y : Int) (W : World) : Calls Tryz.prog 115 #[.int .i64 x, .int .i64 y] W fun e w' => e = .returned (.int .i64 (cmpI x y)) ∧ w' = W := by
  have HX := Lib.hid (isnani_any x W)
  have HY := Lib.hid (isnani_any y W)
  unfold cmpI
  by_cases h : x < y
  · rw [if_pos h]
    have h1 : decide (x < y) = true := decide_eq_true h
    go_enter Tryz.func115, Tryz.ntmps115
    go_wp2_with fail
    with_reducible refine HX.out.mono ?_
    rintro e w2 ⟨rfl, rfl⟩
    go_wp2_with fail
    with_reducible refine HY.out.mono ?_
    rintro e w3 ⟨rfl, rfl⟩
    go_wp2_with fail
    go_ret
    exact ⟨rfl, rfl⟩
  · rw [if_neg h]
    have h1 : decide (x < y) = false := decide_eq_false h
    by_cases h2 : y < x
    · rw [if_pos h2]
      have h3 : decide (y < x) = true := decide_eq_true h2
      go_enter Tryz.func115, Tryz.ntmps115
      go_wp2_with fail
      with_reducible refine HX.out.mono ?_
      rintro e w2 ⟨rfl, rfl⟩
      go_wp2_with fail
      with_reducible refine HY.out.mono ?_
      rintro e w3 ⟨rfl, rfl⟩
      go_wp2_with fail
      go_ret
      exact ⟨rfl, rfl⟩
    · rw [if_neg h2]
      have h3 : decide (y < x) = false := decide_eq_false h2
      go_enter Tryz.func115, Tryz.ntmps115
      go_wp2_with fail
      with_reducible refine HX.out.mono ?_
      rintro e w2 ⟨rfl, rfl⟩
      go_wp2_with fail
      with_reducible refine HY.out.mono ?_
      rintro e w3 ⟨rfl, rfl⟩
      go_wp2_with fail
      go_ret
      exact ⟨rfl, rfl⟩
set_option maxRecDepth 100000 in
theorem or_any (a b : Int) (k : Nat) (W : World) (h0 : W.cell? ⟨k, 0, none⟩ = some (.int .i64 a)) (h1 : W.cell? ⟨k, 1, none⟩ = some (.int .i64 b)) : Calls Tryz.prog 114 #[.slice (some ⟨k, 0, none⟩) 2 2] W fun e w' => e = .returned (.int .i64 (if a = 0 then b else a)) ∧ w' = W := by
  go_enter Tryz.func114, Tryz.ntmps114
  go_wp2_with fail
  go_loopw [8] (fun i wr => ∃ j : Nat, j ≤ 2 ∧ i = .int .i64 (j : Int) ∧ wr = W ∧ (0 < j → a = 0) ∧ (1 < j → b = 0)) (fun i _ => 2 - (intOf i).toNat)
  case atStart => exact ⟨0, by omega, rfl, rfl, by omega, by omega⟩
  case round =>
    obtain ⟨j, hj, rfl, rfl, h2, h3⟩ := hrel
    by_cases c0 : j = 0
    · subst c0
      clear h2 h3
      by_cases ha : a = 0
      · have HA := Lib.hid ha
        have b1 : (a != 0) = false := by simp [ha]
        clear ha
        go_wp2_with fail
        go_roundw
        case rel => exact ⟨1, by omega, by go_num, trivial, fun _ => HA.out, fun h => absurd h (by omega)⟩
        case measure => simp [intOf]
      · have HA := Lib.hid ha
        have b1 : (a != 0) = true := by simp [ha]
        clear ha
        go_wp2_with fail
        go_ret
        exact ⟨rfl, rfl⟩
    · have HA := Lib.hid (h2 (by omega))
      by_cases c1 : j = 1
      · subst c1
        clear h2 h3 c0
        by_cases hb : b = 0
        · have HB := Lib.hid hb
          have b1 : (b != 0) = false := by simp [hb]
          clear hb
          go_wp2_with fail
          go_roundw
          case rel => exact ⟨2, by omega, by go_num, trivial, fun _ => HA.out, fun _ => HB.out⟩
          case measure => simp [intOf]
        · have b1 : (b != 0) = true := by simp [hb]
          clear hb
          go_wp2_with fail
          go_ret
          exact ⟨rfl, rfl⟩
      · obtain rfl : j = 2 := by omega
        have HB := Lib.hid (h3 (by omega))
        clear h2 h3 c0 c1
        go_wp2_with fail
        go_ret
        exact ⟨by rw [HB.out]; rfl, rfl⟩
/-- A place's two cells. -/
def encSp (x : Int × ByteArray) : List Value := [.int .i64 x.1, .string x.2]
set_option maxRecDepth 100000 in
set_option maxHeartbeats 4000000 in
theorem bySpot_any (x y : Int × ByteArray) (W : World) : Calls Tryz.prog 52 #[.agg #[.int .i64 x.1, .string x.2], .agg #[.int .i64 y.1, .string y.2]] W fun e w' => e = .returned (.int .i64 (cmpSp x y)) ∧ ∃ q os', w' = Go.Sort.grow (W.drewN q) os' := by
  obtain ⟨x1, x2⟩ := x
  obtain ⟨y1, y2⟩ := y
  have hci := fun W' => cmpi_any x1 y1 W'
  have hct := fun W' => cmps_any x2 y2 W'
  have hor := fun k W' => or_any (cmpI x1 y1) (cmpT x2 y2) k W'
  unfold cmpSp
  generalize cmpI x1 y1 = a at *
  generalize cmpT x2 y2 = b at *
  obtain ⟨r, hr⟩ : ∃ r, r = (if a = 0 then b else a) := ⟨_, rfl⟩
  simp only [← hr] at hor
  show Calls _ _ _ _ fun e w' => e = .returned (.int .i64 (if a = 0 then b else a)) ∧ _
  rw [← hr]
  clear hr
  have e0 : ∀ (V : World), V.heap.size = W.heap.size + 1 + 1 → (V.alloc (.cells #[.int .i64 a, .int .i64 b] 3)).cell? ⟨W.heap.size + 1 + 1, 0, none⟩ = some (.int .i64 a) := fun V hV => by rw [← hV]; exact (Holds.new V #[.int .i64 a, .int .i64 b] 3).cell 0
  have e1 : ∀ (V : World), V.heap.size = W.heap.size + 1 + 1 → (V.alloc (.cells #[.int .i64 a, .int .i64 b] 3)).cell? ⟨W.heap.size + 1 + 1, 1, none⟩ = some (.int .i64 b) := fun V hV => by rw [← hV]; exact (Holds.new V #[.int .i64 a, .int .i64 b] 3).cell 1
  have e2 : ∀ (V : World), V.heap.size = W.heap.size + 1 + 1 → (V.alloc (.cells #[.int .i64 a, .int .i64 b] 3)).drew.cell? ⟨W.heap.size + 1 + 1, 0, none⟩ = some (.int .i64 a) := e0
  have e3 : ∀ (V : World), V.heap.size = W.heap.size + 1 + 1 → (V.alloc (.cells #[.int .i64 a, .int .i64 b] 3)).drew.cell? ⟨W.heap.size + 1 + 1, 1, none⟩ = some (.int .i64 b) := e1
  go_enter Tryz.func52, Tryz.ntmps52
  go_upto_region 1 with fail
  obtain ⟨W0, hW0⟩ : ∃ W0, W0 = (W.alloc (.cells #[.int .i64 x1, .string x2] 135)).alloc (.cells #[.int .i64 y1, .string y2] 135) := ⟨_, rfl⟩
  have hs0 : W0.heap.size = W.heap.size + 1 + 1 := by rw [hW0, World.size_alloc, World.size_alloc]
  have hx : Holds W0 W.heap.size #[.int .i64 x1, .string x2] 135 := hW0 ▸ (Holds.new W _ _).alloc _
  have hy : Holds W0 (W.heap.size + 1) #[.int .i64 y1, .string y2] 135 := by
    have := Holds.new (W.alloc (.cells #[.int .i64 x1, .string x2] 135)) #[.int .i64 y1, .string y2] 135
    rw [World.size_alloc] at this
    exact hW0 ▸ this
  have HW0 := Lib.hid hW0
  rw [← hW0]
  clear hW0
  have hne : Nonempty (Cls (fun w' => ∃ q, w' = W0.drewN q)) := ⟨⟨W0.drew, 1, rfl⟩⟩
  have k0 : ∀ z : Cls (fun w' => ∃ q, w' = W0.drewN q), z.w.cell? ⟨W.heap.size, 0, none⟩ = some (.int .i64 x1) := fun ⟨_, q, e⟩ => by subst e; exact hx.cell 0
  have k1 : ∀ z : Cls (fun w' => ∃ q, w' = W0.drewN q), z.w.cell? ⟨W.heap.size, 1, none⟩ = some (.string x2) := fun ⟨_, q, e⟩ => by subst e; exact hx.cell 1
  have k2 : ∀ z : Cls (fun w' => ∃ q, w' = W0.drewN q), z.w.cell? ⟨W.heap.size + 1, 0, none⟩ = some (.int .i64 y1) := fun ⟨_, q, e⟩ => by subst e; exact hy.cell 0
  have k3 : ∀ z : Cls (fun w' => ∃ q, w' = W0.drewN q), z.w.cell? ⟨W.heap.size + 1, 1, none⟩ = some (.string y2) := fun ⟨_, q, e⟩ => by subst e; exact hy.cell 1
  have K1 := Lib.hid (fun z : Cls (fun w' => ∃ q, w' = W0.drewN q) => show Calls Tryz.prog 115 #[.int .i64 x1, .int .i64 y1] z.w (fun e w' => e = .returned (.int .i64 a) ∧ ∃ y : Cls (fun w' => ∃ q, w' = W0.drewN q), w' = y.w) from (hci z.w).mono fun e w' q => ⟨q.1, z, q.2⟩)
  have K2 := Lib.hid (fun z : Cls (fun w' => ∃ q, w' = W0.drewN q) => show Calls Tryz.prog 116 #[.string x2, .string y2] z.w (fun e w' => e = .returned (.int .i64 b) ∧ ∃ y : Cls (fun w' => ∃ q, w' = W0.drewN q), w' = y.w) from (hct z.w).mono fun e w' q => ⟨q.1, z, q.2⟩)
  have HO := Lib.hid (fun (q : Nat) => hor (W.heap.size + 1 + 1) ((W0.drewN q).alloc (.cells #[.int .i64 a, .int .i64 b] 3)) (e0 _ hs0) (e1 _ hs0))
  clear hci hct hor e0 e1 e2 e3 hx hy
  refine wp_region_quiet_tail (C := fun w' => ∃ z : Cls (fun w' => ∃ q, w' = W0.drewN q), w' = z.w) 10 (by kernel_rfl) (by kernel_rfl) ⟨⟨W0.drew, 1, rfl⟩, rfl⟩ ?_
  simp only [List.take_succ_cons, List.take_zero, List.drop_succ_cons, List.drop_zero]
  repeat (go_big_quiet_step ((rename_i z; first | with_reducible exact K1.out z | with_reducible exact K2.out z)))
  with_reducible refine wpQuiet_nil ?_
  rintro _ ⟨⟨_, q, rfl⟩, rfl⟩
  clear k0 k1 k2 k3 K1 K2
  have hs1 : (W0.drewN q).heap.size = W.heap.size + 1 + 1 := hs0
  go_wp2_with fail
  refine (HO.out q).mono ?_
  rintro e w' ⟨rfl, rfl⟩
  go_wp2_with fail
  go_ret
  refine ⟨rfl, q, #[.cells #[.int .i64 x1, .string x2] 135] ++ #[.cells #[.int .i64 y1, .string y2] 135] ++ #[.cells #[.int .i64 a, .int .i64 b] 3], ?_⟩
  rw [HW0.out, Go.Sort.alloc_eq_grow, Go.Sort.alloc_eq_grow, Go.Sort.alloc_eq_grow, ← Go.Sort.grow_grow, ← Go.Sort.grow_grow]
  rfl
theorem gr_sortedS (w : World) (g n : Nat) (d : Array (Int × ByteArray)) (os : Array Obj) : Gr [g] w (sortWorldK encSp 2 w g 0 n d os) := by
  refine ⟨rfl, rfl, rfl, ?_, fun k hk hn => ?_⟩
  · show w.heap.size ≤ ((Go.Sort.putRowK encSp 2 (Go.Sort.ahead w n) g 0 d).heap ++ os).size
    rw [Array.size_append, Go.Sort.size_putRowK]
    exact Nat.le_add_right _ _
  · have hs : k < (Go.Sort.putRowK encSp 2 (Go.Sort.ahead w n) g 0 d).heap.size := by rw [Go.Sort.size_putRowK]; exact hk
    show ((Go.Sort.putRowK encSp 2 (Go.Sort.ahead w n) g 0 d).heap ++ os)[k]? = w.heap[k]?
    rw [Array.getElem?_append_left hs]
    show (w.heap.modify g _)[k]? = w.heap[k]?
    rw [Array.getElem?_modify, if_neg fun e => hn (by rw [e]; simp)]
theorem sortSp (g cap : Nat) (d : Array (Int × ByteArray)) (w : World) (hH : Go.Sort.HoldsK encSp 2 w g 0 d) (hg : g < w.heap.size) (hsz : d.size < 4611686018427387904) :
    Calls Tryz.prog 112 #[.slice (some ⟨g, 0, none⟩) d.size cap, .func (.func 52) #[] #[]] w fun e w' => e = .returned (.tuple #[]) ∧ ∃ d' : Array (Int × ByteArray), d'.size = d.size ∧ d'.toList.Perm d.toList ∧ d'.toList.Pairwise (fun x y => ¬ spLt y x) ∧ Go.Sort.HoldsK encSp 2 w' g 0 d' ∧ Gr [g] w w' := by
  have eg : ∀ args w, (callFunc 52 args).run Tryz.prog w = .ok (.enter 52 args) w := enters_of Tryz.func52 (by kernel_rfl) rfl
  have h := AnyQ.slices_SortFunc TrQ.srt 2 Tryz.isAgg135 Tryz.sizeOf135 encSp (fun _ => rfl) (fun x v hv => by simp [encSp] at hv; rcases hv with rfl | rfl <;> rfl) cmpSp swoSp 52 #[] g 0 cap d w eg (fun _ _ _ _ x y => bySpot_any x y _) hH hg hsz
  rw [TrQ.fSrt] at h
  refine h.mono ?_
  rintro e w' ⟨rfl, d', n, os, hp, hs, rfl⟩
  obtain ⟨h1, h2, h3⟩ := hp
  refine ⟨rfl, d', h1, ?_, ?_, ?_, gr_sortedS _ _ _ _ _⟩
  · have e1 : d'.extract 0 d.size = d' := by rw [← h1]; simp
    have e2 : d.extract 0 d.size = d := by simp
    rw [e1, e2] at h3
    exact h3
  · rw [List.pairwise_iff_getElem]
    intro i j hi hj hij
    have hi' : i < d'.size := by simpa using hi
    have hj' : j < d'.size := by simpa using hj
    have := hs i j (Nat.zero_le _) hij (by rw [← h1]; exact hj')
    rw [ltOf_spF] at this
    rw [getElem!_pos d' i hi', getElem!_pos d' j hj'] at this
    simpa using this
  · exact Go.Sort.holdsK_grow encSp 2 (Go.Sort.putRowK encSp 2 (Go.Sort.ahead w n) g 0 d') os g 0 d' (by rw [Go.Sort.size_putRowK]; exact hg) (Go.Sort.holdsK_putRowK encSp 2 (Go.Sort.ahead w n) g 0 d d' hH h1)
end Go.Proofs.YtgleopahldpajaaGreat
