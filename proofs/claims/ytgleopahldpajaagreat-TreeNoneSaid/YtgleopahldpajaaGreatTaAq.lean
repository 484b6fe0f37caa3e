/-
  Layer 19 (tree): Deeds.
-/
import Derived.Test.YtgleopahldpajaaGreatTaAp
import Derived.Deep.AppendLies

set_option linter.unusedSimpArgs false
namespace Go.Proofs.YtgleopahldpajaaGreat
open Go.RowKit Go.Shelf
open Go.Maps (Keyed has)
set_option linter.unusedVariables false
theorem MapZ.clearT {P : Program} {k e t : TypeId} {α : Type} {E : EltLaw P e α} {w : World} {b n : Nat} {f : Int → Option α} (h : MapZ E k w b n f) (ht : P.underlying t = some (.map k e)) (ty : TypeId) : ∃ w', (Builtin.clear_ #[t] ty #[.map (some b)]).run P w = .ok (.tuple #[]) w' ∧ MapZ E k w' b 0 (fun _ => none) ∧ Gr [b] w w' := by
  obtain ⟨D, ⟨es, clock, hb, F, hs, hD⟩, q⟩ := h
  refine ⟨ChangeMaps.setBlock w b (.map #[] clock), ?_, ⟨.map [], ⟨#[], clock, ChangeMaps.heap_setBlock_same hb _, ⟨by simp, MapKept.stamped_empty clock, by simp⟩, Nat.le_refl _, rfl⟩, MIs.empty⟩, ⟨rfl, rfl, rfl, by simp [ChangeMaps.setBlock], fun i _ hi => ChangeMaps.heap_setBlock_other hb _ (fun e => hi (by rw [e]; simp))⟩⟩
  simp [Builtin.clear_, run_underlying ht, MapKept.run_getObj_map hb, MapKept.run_setObj_map _ hb, Result.andThen, ChangeMaps.setBlock]
theorem MapS.clearT {w : World} {b n : Nat} {f : Int → ByteArray → Bool} (h : MapS w b n f) (ty : TypeId) : ∃ w', (Builtin.clear_ #[128] ty #[.map (some b)]).run Tryz.prog w = .ok (.tuple #[]) w' ∧ MapS w' b 0 (fun _ _ => false) ∧ Gr [b] w w' := by
  obtain ⟨D, ⟨es, clock, hb, F, hs, hD⟩, q⟩ := h
  refine ⟨ChangeMaps.setBlock w b (.map #[] clock), ?_, ⟨.map [], ⟨#[], clock, ChangeMaps.heap_setBlock_same hb _, ⟨by simp, MapKept.stamped_empty clock, by simp⟩, Nat.le_refl _, rfl⟩, fun _ _ _ _ => rfl⟩, ⟨rfl, rfl, rfl, by simp [ChangeMaps.setBlock], fun i _ hi => ChangeMaps.heap_setBlock_other hb _ (fun e => hi (by rw [e]; simp))⟩⟩
  simp [Builtin.clear_, run_underlying Tryz.underlying128, MapKept.run_getObj_map hb, MapKept.run_setObj_map _ hb, Result.andThen, ChangeMaps.setBlock]
theorem keys_fact {P : Program} {k : TypeId} {H : Type} {R : Value → Option (DataW H × List MemPlace)} {w : World} {b n : Nat} {D0 : DataW H} (hown : w.ownsMap P k R b n D0) (hk : P.underlying k = some (.int .i64)) :
    (intKeys D0).Nodup ∧ (∀ x, x ∈ intKeys D0 ↔ WfZ x ∧ has D0 (.int .i64 x) = true) ∧ (intKeys D0).length = Maps.size D0 := by
  obtain ⟨es, hD, hpw, _⟩ := hown.entries (Maps.int_keyed hk)
  obtain ⟨es', hD', hko⟩ := hown.keysOf
  obtain rfl : es = es' := by rw [hD] at hD'; simpa using hD'
  subst hD
  have kx : ∀ p ∈ es, ∃ x, p.1 = Lit.int .i64 x ∧ WfZ x := fun p hp => by
    obtain ⟨v, hv⟩ := hko p hp
    exact keyZ_inv hk hv
  refine ⟨?_, fun x => ?_, ?_⟩
  · show (es.map fun p => Go.intOf p.1).Nodup
    rw [List.Nodup, List.pairwise_map]
    refine hpw.imp_of_mem fun {p q} hp hq hne e => hne ?_
    obtain ⟨x, hx, _⟩ := kx p hp
    obtain ⟨y, hy, _⟩ := kx q hq
    rw [hx, hy] at e ⊢
    have e2 : x = y := e
    rw [e2]
  · rw [Maps.has_eq, List.any_eq_true]
    show x ∈ es.map (fun p => Go.intOf p.1) ↔ _
    rw [List.mem_map]
    constructor
    · rintro ⟨p, hp, rfl⟩
      obtain ⟨y, hy, hw⟩ := kx p hp
      have e : Go.intOf p.1 = y := by rw [hy]; rfl
      rw [e]
      exact ⟨hw, p, hp, by rw [hy]; exact key_self y⟩
    · rintro ⟨_, p, hp, hs⟩
      obtain ⟨y, hy, _⟩ := kx p hp
      rw [hy, key_is, decide_eq_true_eq] at hs
      exact ⟨p, hp, by rw [hy, ← hs]; rfl⟩
  · show (es.map fun p => Go.intOf p.1).length = es.length
    rw [List.length_map]
theorem own_low {w : World} {base base' : Nat} {e : TypeId} {size n : Nat} {v : Value} {xs : List Value} (h : w.ownsRow base e size v n xs) (hb : base' ≤ base) : w.ownsRow base' e size v n xs := by
  refine ⟨h.1, ?_⟩
  rcases h.2 with hz | ⟨g, cap, cur, hv, hg, rest⟩
  · exact .inl hz
  · exact .inr ⟨g, cap, cur, hv, Nat.le_trans hb hg, rest⟩
/-- Deeds as plain data. -/
abbrev DeedZ := Nat × Int × ByteArray
def nameDeed (nm : List NmZ) (p : Int × ByteArray) : DeedZ := (if (lkN nm p.1 p.2).isSome then 3 else 4, p.1, p.2)
def nodeDeed (T : Int → Option NdZ) (n : Int) : DeedZ := (if (T n).isSome then 1 else 2, n, ⟨#[]⟩)
def encD (d : DeedZ) : List Value := [.int .i64 (d.1 : Int), .int .i64 d.2.1, .string d.2.2]
theorem infoD19 : (Tryz.prog.info? 47).map (fun i => (i.zero, i.size, i.bytes)) = some (some (.agg #[.int .i64 0, .int .i64 0, .string ⟨#[]⟩]), 3, 32) := by kernel_rfl
def TrZ.told (Z : TrZ) : TrZ := { Z with sp := fun _ _ => false, sn := fun _ => false }
section
variable {w w' w2 : World} {A : TrA} {Z : TrZ} {K : Nat} {g : Int → NdV} {n : Int} {x : NdZ} {v : NdV}
/-- What region 8 of Deeds sees. -/
theorem TrG.there (h : TrG w A Z K g) (ok : TrO Z.T Z.nm) (z : Int) (hz : WfZ z) (s : ByteArray) (hs : s.size ≤ maxLen) : ∃ (U : Value) (dp : Option Addr) (u : Int), (∀ W, Gr [] w W → (Instr.lookup 126 (.map (some A.nb)) (.int .i64 z) false).run Tryz.prog W = .ok U W) ∧ (∀ W, (Instr.field 125 U 1).run Tryz.prog W = .ok (.pointer dp) W) ∧
    ∀ W, Gr [] w W → Calls Tryz.prog 53 #[.pointer dp, .string s] W fun e w' => e = .returned (.tuple #[.int .i64 u, .bool (lkN Z.nm z s).isSome]) ∧ Below W.heap.size W w' := by
  have hlk : ∀ W, Gr [] w W → (Instr.lookup 126 (.map (some A.nb)) (.int .i64 z) false).run Tryz.prog W = .ok (ndE.val ((gT g Z.T z).getD ndE.zero)) W := fun W q => (h.nodes.gr0 q).look undInt19 undNodes hz
  have hnone : (∀ x, Z.T z = some x → x.k ≠ 2) → (lkN Z.nm z s).isSome = false := fun q => by
    cases c : lkN Z.nm z s with
    | none => rfl
    | some v =>
      obtain ⟨_, _, ⟨d, hd, hk, _⟩, _⟩ := ok.nms _ (lkN_some c)
      exact absurd hk (q d hd)
  cases c : Z.T z with
  | none =>
    refine ⟨_, none, 0, hlk, ?_, fun W _ => ?_⟩
    · rw [gT_none c]; exact fun W => fld_names ndZero W
    · rw [hnone (fun x hx => by rw [c] at hx; cases hx)]
      exact (dget_nil s hs W).mono fun e w' q => ⟨q.1, q.2 ▸ Below.refl _ _⟩
  | some x =>
    have his := h.nd z x c
    by_cases hk : x.k = 2
    · obtain ⟨D, hdp, hD, _⟩ := his.dir hk
      refine ⟨_, some ⟨D.db, 0, none⟩, _, hlk, ?_, fun W q => (dget_any (hD.gr0 q) s hs).mono fun e w' r => ⟨r.1, r.2.below0⟩⟩
      rw [gT_some c, ← hdp]; exact fun W => fld_names (g z) W
    · refine ⟨_, none, 0, hlk, ?_, fun W _ => ?_⟩
      · rw [gT_some c, ← his.nod hk]; exact fun W => fld_names (g z) W
      · rw [hnone (fun y hy => by rw [c] at hy; injection hy with hy; rw [← hy]; exact hk)]
        exact (dget_nil s hs W).mono fun e w' q => ⟨q.1, q.2 ▸ Below.refl _ _⟩
set_option maxRecDepth 100000 in
set_option maxHeartbeats 1000000 in
theorem deeds_nil (w : World) : Calls Tryz.prog 13 #[.pointer none] w fun e w' => e = .returned (.slice none 0 0) ∧ w' = w := by
  go_enter Tryz.func13, Tryz.ntmps13
  go_wp2_with fail
  go_ret
  exact ⟨rfl, rfl⟩
set_option maxRecDepth 100000 in
set_option maxHeartbeats 8000000 in
theorem deeds_any (h : TrG w A Z K g) (ok : TrO Z.T Z.nm) (hK : K ≤ 100000) : Calls Tryz.prog 13 #[.pointer (some ⟨A.tb, 0, none⟩)] w fun e w' => ∃ (v : Value) (Ls : List (Int × ByteArray)) (Li : List Int), e = .returned v ∧ Ls.Nodup ∧ Ls.Pairwise spLt ∧ (∀ p : Int × ByteArray, WfZ p.1 → p.2.size ≤ maxLen → (p ∈ Ls ↔ Z.sp p.1 p.2 = true)) ∧ (∀ p ∈ Ls, WfZ p.1 ∧ p.2.size ≤ maxLen) ∧
    Li.Pairwise (· < ·) ∧ (∀ z, z ∈ Li ↔ WfZ z ∧ Z.sn z = true) ∧ w'.ownsRow w.heap.size 47 3 v (Ls.length + Li.length) ((Ls.map (nameDeed Z.nm) ++ Li.map (nodeDeed Z.T)).flatMap encD) ∧ TrG w' A Z.told K g ∧ Gr A.own w w' := by
  obtain ⟨i0, hi, hz0, hz1, hz2⟩ := info_parts infoD19
  obtain ⟨D0, hown, hmi⟩ := h.spots
  have HD0 := Lib.hid (And.intro hown hmi)
  have HH := Lib.hid (And.intro h (And.intro ok hK))
  have c2 := h.hd.cell 2
  have hsz : Maps.size D0 ≤ 1000000 := by have := hown.size_le; omega
  have HKC := Lib.hid (keys_sp (some A.sb) w)
  have HSF := Lib.hid (sortedFunc_sp w.heap.size A.sb K D0 hsz (w.alloc (.cells #[.map (some A.sb)] 128)) (by simp) ((Holds.new w #[.map (some A.sb)] 128).cell 0) (by
    obtain ⟨es, clock, hb, Ft, hs, hD⟩ := hown
    exact ⟨es, clock, (Below.heap_alloc _ _ A.sb h.spots.lt).trans hb, Ft, hs, hD⟩))
  clear h ok hK hown hmi hsz
  go_enter Tryz.func13, Tryz.ntmps13
  go_wp2_with fail
  with_reducible refine HKC.out.mono ?_
  rintro e w1 ⟨rfl, rfl⟩
  go_wp2_with fail
  with_reducible refine HSF.out.mono ?_
  rintro e w2 ⟨ao, cap, Ls, rfl, hall, hup, hat, g2⟩
  have G2 : Gr [] w w2 := ((Gr.refl [] w).alloc _).next0 g2
  have HL := Lib.hid (And.intro hall (And.intro hup (And.intro hat G2)))
  have HLL := Lib.hid (show Ls.length ≤ 100000 by have := hall.len; have := HD0.out.1.size_le; have := HH.out.2.2; omega)
  clear hall hup hat g2 G2 HKC HSF c2
  go_wp2_with fail
  go_loopw [23, 3] (fun i l wr => ∃ (j : Nat) (v : Value), j ≤ Ls.length ∧ i = .int .i64 (j : Int) ∧ l = v ∧ wr.ownsRow w2.heap.size 47 3 v j (((Ls.take j).map (nameDeed Z.nm)).flatMap encD) ∧ Gr [] w2 wr) (fun i _ _ => Ls.length - (intOf i).toNat)
  case atStart => exact ⟨0, _, by omega, rfl, rfl, World.ownsRow_nil _ _ _ _, Gr.refl _ _⟩
  case round =>
    obtain ⟨j, lv, hj, rfl, rfl, ho, G⟩ := hrel
    obtain ⟨la, lc, rfl⟩ := own_shp ho
    by_cases hjl : j < Ls.length
    · as_aux_lemma =>
        have hne : Ls ≠ [] := fun e => by rw [e] at hjl; simp at hjl
        obtain ⟨gb, rfl, hg1, hg2, hat⟩ := HL.out.2.2.1 hne
        obtain ⟨e0, e1⟩ := hat j hjl
        obtain ⟨hw1, hw2⟩ := HL.out.1.wf Ls[j] (List.getElem_mem hjl)
        obtain ⟨p, hp⟩ : ∃ p, p = Ls[j] := ⟨_, rfl⟩
        rw [← hp] at e0 e1 hw1 hw2
        obtain ⟨z, s⟩ := p
        have a0 : wr.cell? ⟨gb, j * 2, none⟩ = some (.int .i64 z) := (G.cell0 hg2).trans e0
        have a1 : wr.cell? ⟨gb, j * 2 + 1, none⟩ = some (.string s) := (G.cell0 hg2).trans e1
        have l1 : (j : Int) < (Ls.length : Int) := by omega
        have u1 : IntKind.i64.wrap ((j : Int) + 1) = ((j + 1 : Nat) : Int) := by have := HLL.out; rw [IntWalk.i64_in _ (by omega)]; omega
        have Gw := HL.out.2.2.2.next0 G
        obtain ⟨A2, hA2⟩ : ∃ A2, A2 = (wr.alloc (.cells #[.int .i64 z, .string s] 135)).alloc (.cells #[.int .i64 4, .int .i64 z, .string s] 47) := ⟨_, rfl⟩
        have GA : Gr [] wr A2 := hA2 ▸ ((Gr.refl [] wr).alloc _).alloc _
        have hT := (HH.out.1.gr0 Gw).gr0 GA
        obtain ⟨U, dp, u, hlk, hfld, hget⟩ := hT.there HH.out.2.1 z hw1 s hw2
        have HHX := Lib.hid (And.intro hlk hget)
        have HP := Lib.hid (And.intro hp (And.intro ho (And.intro G Gw)))
        have hsp : Holds A2 wr.heap.size #[.int .i64 z, .string s] 135 := hA2 ▸ (Holds.new wr _ _).alloc _
        have hdd : Holds A2 (wr.heap.size + 1) #[.int .i64 4, .int .i64 z, .string s] 47 := by
          have := Holds.new (wr.alloc (.cells #[.int .i64 z, .string s] 135)) #[.int .i64 4, .int .i64 z, .string s] 47
          rw [World.size_alloc] at this
          exact hA2 ▸ this
        have s0 := hsp.cell 0
        have s1 := hsp.cell 1
        have c0 := hT.hd.cell 0
        have HDD := Lib.hid (And.intro hdd GA)
        have HA2 := Lib.hid hA2
        obtain ⟨th, hth⟩ : ∃ th, th = (lkN Z.nm z s).isSome := ⟨_, rfl⟩
        have HTH := Lib.hid hth
        rw [← hth] at HHX
        clear e0 e1 hp hw1 hw2 ho G Gw hT hlk hget hat hne hsp hdd GA hA2 hth
        go_upto_region 8 with fail
        rw [← HA2.out]
        have k0 := kp_cell c0
        have k1 := kp_cell s0
        have k2 := kp_cell s1
        have hne := kp_ne A2
        have kl : ∀ y : Cls (Kp A2), (Instr.lookup 126 (.map (some A.nb)) (.int .i64 z) false).run Tryz.prog y.w = .ok U y.w := fun y => HHX.out.1 y.w (Gr.ofBelow y.h)
        have K1 := Lib.hid (fun y : Cls (Kp A2) => HHX.out.2 y.w (Gr.ofBelow y.h))
        refine wp_region_kp (by kernel_rfl) (by kernel_rfl) ?_
        repeat (go_big_quiet_step ((rename_i y; with_reducible exact kp_call y (K1.out y))))
        with_reducible refine wpQuiet_nil ?_
        rintro _ ⟨y, rfl⟩
        have gy := Gr.ofBelow (cs := []) y.h
        have hdd5 := HDD.out.1.gr0 gy
        have ho5 := own_gr0 (own_gr0 HP.out.2.1 HDD.out.2) gy
        have G5 := HDD.out.2.next0 gy
        have lvb : ∀ q, (Value.slice la j lc).ownBlock = some q → q < wr.heap.size := fun q hq => (World.ownsRow.lt HP.out.2.1 q hq).2
        have HN5 := Lib.hid (show Ls[j]? = some (z, s) by rw [HP.out.1]; exact List.getElem?_eq_getElem hjl)
        have hlen5 := hdd5.lt
        clear k0 k1 k2 hne kl K1 s0 s1 c0 HHX
        generalize y.w = w5 at *
        clear y
        have m0 := hdd5.cell 0
        have m1 := hdd5.cell 1
        have m2 := hdd5.cell 2
        have f0 := hdd5.frozen 0
        have hone : ∀ (k : Int), ∀ q ∈ [Value.int .i64 k, .int .i64 z, .string s], q.oneCell' = true := by simp [Value.oneCell']
        have HSZ := Lib.hid (And.intro HP.out.2.2.1.size G5.size)
        cases th with
        | true =>
          have hdd6 : Holds (w5.setCell ⟨wr.heap.size + 1, 0, none⟩ (.int .i64 3)) (wr.heap.size + 1) #[.int .i64 3, .int .i64 z, .string s] 47 := by
            have r := hdd5.set 0 (.int .i64 3)
            simpa using r
          have gs : Gr [wr.heap.size + 1] w5 (w5.setCell ⟨wr.heap.size + 1, 0, none⟩ (.int .i64 3)) := (Gr.refl [wr.heap.size + 1] w5).setCell (.inl (by simp)) _
          have ho6 := own_gr ho5 gs fun q hq e => by rw [List.mem_singleton] at e; have := lvb q hq; omega
          have G6 : Gr [] wr (w5.setCell ⟨wr.heap.size + 1, 0, none⟩ (.int .i64 3)) := G5.nextN gs fun q hq => .inr (by rw [List.mem_singleton] at hq; omega)
          have HO := Lib.hid (ho6.alloc (Obj.cells #[.int .i64 3, .int .i64 z, .string s] 47))
          have HNW := Lib.hid (Holds.new (w5.setCell ⟨wr.heap.size + 1, 0, none⟩ (.int .i64 3)) #[.int .i64 3, .int .i64 z, .string s] 47)
          have HG6 := Lib.hid (And.intro hdd6 G6)
          have hsz6 : (w5.setCell ⟨wr.heap.size + 1, 0, none⟩ (.int .i64 3)).heap.size = w5.heap.size := World.size_setCell _ _ _
          clear gy hdd5 ho5 G5 hdd6 gs ho6 G6
          go_wp2_with (at_builtin; refine wpList_append_own _ rfl _ _ 30 rfl w2.heap.size 47 i0 _ 3 32 Tryz.underlying30 hi hz0 hz1 hz2 rfl (by decide) _ _ _ rfl HO.out ⟨w5.heap.size, 0, none⟩ 1 1 [.int .i64 3, .int .i64 z, .string s] rfl rfl (World.news_of_block (by have := HNW.out; rw [hsz6] at this; exact this)) (hone 3) (by have := HLL.out; unfold maxLen; omega) (by have := HLL.out; omega) (by have := HSZ.out; rw [World.size_alloc, hsz6]; omega) ?_; intro v' w7 hown' hgrow _)
          have g7 := (HP.out.2.2.1.next0 HG6.out.2).alloc (Obj.cells #[.int .i64 3, .int .i64 z, .string s] 47)
          have hll := HLL.out
          have HF := Lib.hid (g7.grown hgrow fun q hq => .inr (World.ownsRow.lt HO.out q hq).1)
          refine ⟨⟨j + 1, v', by omega, by first | rfl | (rw [show wrap64 ((j : Int) + 1) = _ from u1]), rfl, ?_, HF.out⟩, ?_⟩
          case refine_2 => first | (rw [show wrap64 ((j : Int) + 1) = _ from u1]; simp [intOf]; omega) | (simp [intOf]; omega)
          rw [List.take_succ_eq_append_getElem hjl, List.map_append, List.flatMap_append]
          have e : nameDeed Z.nm Ls[j] = (3, z, s) := by rw [← HP.out.1]; unfold nameDeed; rw [← HTH.out]; rfl
          simp only [List.map_cons, List.map_nil, List.flatMap_cons, List.flatMap_nil, List.append_nil]
          rw [e, show encD (3, z, s) = [.int .i64 3, .int .i64 z, .string s] from rfl]
          exact hown'
        | false =>
          have G6 := G5
          have HO := Lib.hid (ho5.alloc (Obj.cells #[.int .i64 4, .int .i64 z, .string s] 47))
          have HNW := Lib.hid (Holds.new w5 #[.int .i64 4, .int .i64 z, .string s] 47)
          have HG6 := Lib.hid (And.intro hdd5 G6)
          clear gy hdd5 ho5 G5 G6
          go_wp2_with (at_builtin; refine wpList_append_own _ rfl _ _ 30 rfl w2.heap.size 47 i0 _ 3 32 Tryz.underlying30 hi hz0 hz1 hz2 rfl (by decide) _ _ _ rfl HO.out ⟨w5.heap.size, 0, none⟩ 1 1 [.int .i64 4, .int .i64 z, .string s] rfl rfl (World.news_of_block HNW.out) (hone 4) (by have := HLL.out; unfold maxLen; omega) (by have := HLL.out; omega) (by have := HSZ.out; rw [World.size_alloc]; omega) ?_; intro v' w7 hown' hgrow _)
          have g7 := (HP.out.2.2.1.next0 HG6.out.2).alloc (Obj.cells #[.int .i64 4, .int .i64 z, .string s] 47)
          have hll := HLL.out
          have HF := Lib.hid (g7.grown hgrow fun q hq => .inr (World.ownsRow.lt HO.out q hq).1)
          refine ⟨⟨j + 1, v', by omega, by first | rfl | (rw [show wrap64 ((j : Int) + 1) = _ from u1]), rfl, ?_, HF.out⟩, ?_⟩
          case refine_2 => first | (rw [show wrap64 ((j : Int) + 1) = _ from u1]; simp [intOf]; omega) | (simp [intOf]; omega)
          rw [List.take_succ_eq_append_getElem hjl, List.map_append, List.flatMap_append]
          have e : nameDeed Z.nm Ls[j] = (4, z, s) := by rw [← HP.out.1]; unfold nameDeed; rw [← HTH.out]; rfl
          simp only [List.map_cons, List.map_nil, List.flatMap_cons, List.flatMap_nil, List.append_nil]
          rw [e, show encD (4, z, s) = [.int .i64 4, .int .i64 z, .string s] from rfl]
          exact hown'
    · obtain rfl : j = Ls.length := by omega
      have hT := HH.out.1.gr0 (HL.out.2.2.2.next0 G)
      obtain ⟨D1, hown1, hmi1⟩ := hT.inodes
      have hD1 : Maps.size D1 ≤ 100000 := by have := hown1.size_le; have := HH.out.2.2; omega
      have HKI := Lib.hid (tkeys_call (some A.ib) wr)
      have HSI := Lib.hid (tsorted_call A.ib K D1 setE.R wr hown1 (by unfold maxLen; omega) (by omega))
      have HI := Lib.hid (keys_fact hown1 undInt19)
      have HM1 := Lib.hid (And.intro hmi1 hD1)
      have HT := Lib.hid (And.intro hT (And.intro ho G))
      have d1 := hT.hd.cell 1
      clear hT hown1 hmi1 hD1 ho G hj hjl
      go_wp2_with fail
      with_reducible refine HKI.out.mono ?_
      rintro e w3 ⟨rfl, rfl⟩
      go_wp2_with fail
      with_reducible refine HSI.out.mono ?_
      rintro e w4 ⟨sv, ss, rfl, hp, hso, hnil, hb4⟩
      obtain ⟨Li, hLi⟩ : ∃ Li, Li = ss.mergeSort (fun x y => decide (x ≤ y)) := ⟨_, rfl⟩
      have hlp : Li.Perm ss := hLi ▸ List.mergeSort_perm _ _
      have hup : Li.Pairwise (· < ·) := by
        have h1 : Li.Pairwise (fun x y => decide (x ≤ y) = true) := hLi ▸ List.pairwise_mergeSort (by simp; omega) (by simp; omega) ss
        have h2 : Li.Nodup := (hlp.trans hp).nodup_iff.2 HI.out.1
        exact (h1.and h2).imp fun ⟨a, b⟩ => by have := of_decide_eq_true a; omega
      rw [← hLi, ← hlp.length_eq] at hso
      obtain ⟨sa, sc, rfl⟩ := own_shp hso
      have g4 : Gr [] wr w4 := ((Gr.refl [] wr).alloc _).next0 (Gr.ofBelow hb4)
      have hne4 : ∀ q, (Value.slice la Ls.length lc).ownBlock = some q → (Value.slice sa Li.length sc).ownBlock ≠ some q := fun q h1 h2 => by
        have h3 := (World.ownsRow.lt HT.out.2.1 q h1).2
        have h4 := (World.ownsRow.lt hso q h2).1
        rw [World.size_alloc] at h4
        omega
      have HS := Lib.hid (And.intro (own_low (base' := w2.heap.size) hso (by have := HT.out.2.2.size; rw [World.size_alloc]; omega)) (And.intro hup (And.intro (hlp.trans hp) (And.intro (HT.out.2.2.next0 g4) (And.intro (own_gr0 HT.out.2.1 g4) hne4)))))
      have HLI := Lib.hid (show Li.length ≤ 100000 by
        rw [(hlp.trans hp).length_eq]
        have := HI.out.2.2
        have := HM1.out.2
        omega)
      clear hp hso hnil hb4 hLi hlp hup g4 HKI HSI d1 hne4
      go_wp2_with fail
      go_loopw [60, 3] (fun i l wr => ∃ (k : Nat) (v : Value), k ≤ Li.length ∧ i = .int .i64 (k : Int) ∧ l = v ∧ wr.ownsRow w2.heap.size 47 3 v (Ls.length + k) ((Ls.map (nameDeed Z.nm) ++ (Li.take k).map (nodeDeed Z.T)).flatMap encD) ∧ Gr [] w2 wr ∧ wr.ownsRow w2.heap.size 3 1 (.slice sa Li.length sc) Li.length (Li.map encZ) ∧ Hid (∀ q, v.ownBlock = some q → (Value.slice sa Li.length sc).ownBlock ≠ some q)) (fun i _ _ => Li.length - (intOf i).toNat)
      case atStart => exact ⟨0, _, by omega, rfl, rfl, by simpa using HS.out.2.2.2.2.1, HS.out.2.2.2.1, HS.out.1, Lib.hid HS.out.2.2.2.2.2⟩
      case round =>
        obtain ⟨k, lv, hk, rfl, rfl, ho, G, hsr, hne⟩ := hrel
        obtain ⟨la2, lc2, rfl⟩ := own_shp ho
        by_cases hkl : k < Li.length
        · as_aux_lemma =>
            obtain ⟨n, hn⟩ : ∃ n, n = Li[k] := ⟨_, rfl⟩
            have hnm : n ∈ Li := hn ▸ List.getElem_mem hkl
            have hwf : WfZ n := ((HI.out.2.1 n).1 (HS.out.2.2.1.mem_iff.1 hnm)).1
            obtain ⟨gs, hgs⟩ : ∃ gs, sa = some ⟨gs, 0, none⟩ := by
              rcases hsr.2 with ⟨_, e0⟩ | ⟨gb, cap, cur, hv, hb, hg, _⟩
              · exact absurd e0 (by omega)
              · injection hv with hv; exact ⟨gb, hv⟩
            subst hgs
            have a0 : wr.cell? ⟨gs, k, none⟩ = some (.int .i64 n) := by
              rw [World.ownsRow.cellAt hsr k (by omega), List.getElem?_map, List.getElem?_eq_getElem hkl, ← hn]; rfl
            have l1 : (k : Int) < (Li.length : Int) := by omega
            have l2 : (0 : Int) ≤ (k : Int) := by omega
            have u1 : IntKind.i64.wrap ((k : Int) + 1) = ((k + 1 : Nat) : Int) := by have := HLI.out; rw [IntWalk.i64_in _ (by omega)]; omega
            have Gw := HL.out.2.2.2.next0 G
            have gd : Gr [] wr (wr.alloc (.cells #[.int .i64 2, .int .i64 n, .string ⟨#[]⟩] 47)) := (Gr.refl [] wr).alloc _
            have hT := (HH.out.1.gr0 Gw).gr0 gd
            have c0 := hT.hd.cell 0
            have HM := Lib.hid hT.nodes
            have HW := Lib.hid hwf
            have HP := Lib.hid (And.intro hn (And.intro ho (And.intro G (And.intro hsr hne.out))))
            have hone : ∀ (k : Int), ∀ q ∈ [Value.int .i64 k, .int .i64 n, .string ⟨#[]⟩], q.oneCell' = true := by simp [Value.oneCell']
            have hll := HLL.out
            have hli := HLI.out
            clear hnm hwf Gw gd hT hn ho G hsr hne
            cases q : Z.T n with
            | some y =>
              obtain ⟨v, hv⟩ : ∃ v, v = g n := ⟨_, rfl⟩
              have HV := Lib.hid (show Value.tuple #[ndE.val ((gT g Z.T n).getD ndE.zero), .bool (gT g Z.T n).isSome] = .tuple #[.agg #[.int .u8 v.k, .int .i64 v.l, .int .i64 v.s, .slice v.ao v.n v.cap, .string v.t, .pointer v.dp, .int .i64 v.up, .int .i64 v.op], .bool true] by rw [gT_some q, hv]; rfl)
              have HQ := Lib.hid q
              have HO := Lib.hid (((HP.out.2.1.alloc (Obj.cells #[.int .i64 1, .int .i64 n, .string ⟨#[]⟩] 47)).alloc (Obj.cells #[.int .u8 v.k, .int .i64 v.l, .int .i64 v.s, .slice v.ao v.n v.cap, .string v.t, .pointer v.dp, .int .i64 v.up, .int .i64 v.op] 125)).alloc (Obj.cells #[.int .i64 1, .int .i64 n, .string ⟨#[]⟩] 47))
              have hN := Holds.new ((wr.alloc (Obj.cells #[.int .i64 1, .int .i64 n, .string ⟨#[]⟩] 47)).alloc (Obj.cells #[.int .u8 v.k, .int .i64 v.l, .int .i64 v.s, .slice v.ao v.n v.cap, .string v.t, .pointer v.dp, .int .i64 v.up, .int .i64 v.op] 125)) #[.int .i64 1, .int .i64 n, .string ⟨#[]⟩] 47
              rw [World.size_alloc, World.size_alloc] at hN
              have HNW := Lib.hid hN
              have HG6 := Lib.hid ((((Gr.refl [] wr).alloc (Obj.cells #[.int .i64 1, .int .i64 n, .string ⟨#[]⟩] 47)).alloc (Obj.cells #[.int .u8 v.k, .int .i64 v.l, .int .i64 v.s, .slice v.ao v.n v.cap, .string v.t, .pointer v.dp, .int .i64 v.up, .int .i64 v.op] 125)).alloc (Obj.cells #[.int .i64 1, .int .i64 n, .string ⟨#[]⟩] 47))
              clear q hv hN
              go_wp2_with (first
                | (at_lookup; refine wp_lookZ_oks rfl _ _ rfl rfl HM.out undInt19 undNodes n rfl HW.out _ HV.out ?_)
                | (at_builtin; refine wpList_append_lies _ rfl _ _ 30 rfl w2.heap.size 47 i0 _ 3 32 Tryz.underlying30 hi hz0 hz1 hz2 rfl (by decide) _ _ _ rfl HO.out ⟨wr.heap.size + 1 + 1, 0, none⟩ 1 1 [.int .i64 1, .int .i64 n, .string ⟨#[]⟩] rfl rfl (World.news_of_block HNW.out) (hone 1) (by decide) (by unfold maxLen; omega) (by omega) (by have h1 := HP.out.2.2.1.size; rw [World.size_alloc, World.size_alloc, World.size_alloc]; omega) _ rfl ?_; intro g7 cp7 w7 hown' hgrow hat hlt7))
              have HF := Lib.hid (And.intro ((HP.out.2.2.1.next0 HG6.out).grown hgrow fun q hq => .inr (World.ownsRow.lt HO.out q hq).1) (And.intro (own_gr (own_gr0 HP.out.2.2.2.1 HG6.out) (Gr.ofGrown hgrow) fun b hb m => HP.out.2.2.2.2 b (Option.mem_toList.1 m) hb) (show ∀ q, (Value.slice (some ⟨g7, 0, none⟩) (Ls.length + k + 1) cp7).ownBlock = some q → (Value.slice (some ⟨gs, 0, none⟩) Li.length sc).ownBlock ≠ some q from fun q h1 h2 => by
                have e1 : g7 = q := by simpa [Value.ownBlock] using h1
                rcases hat with h3 | h3
                · exact HP.out.2.2.2.2 q (by rw [← e1]; exact h3) h2
                · have h4 := (World.ownsRow.lt HP.out.2.2.2.1 q h2).2
                  rw [World.size_alloc, World.size_alloc, World.size_alloc] at h3
                  omega)))
              refine ⟨⟨k + 1, _, by omega, by first | rfl | (rw [show wrap64 ((k : Int) + 1) = _ from u1]), rfl, ?_, HF.out.1, HF.out.2.1, Lib.hid HF.out.2.2⟩, ?_⟩
              case refine_2 => first | (rw [show wrap64 ((k : Int) + 1) = _ from u1]; simp [intOf]; omega) | (simp [intOf]; omega)
              rw [List.take_succ_eq_append_getElem hkl, List.map_append, ← List.append_assoc, List.flatMap_append]
              have e : nodeDeed Z.T Li[k] = (1, n, ⟨#[]⟩) := by rw [← HP.out.1]; unfold nodeDeed; rw [HQ.out]; rfl
              simp only [List.map_cons, List.map_nil, List.flatMap_cons, List.flatMap_nil, List.append_nil]
              rw [e, show encD (1, n, ⟨#[]⟩) = [.int .i64 1, .int .i64 n, .string ⟨#[]⟩] from rfl]
              exact hown'
            | none =>
              have HV := Lib.hid (show Value.tuple #[ndE.val ((gT g Z.T n).getD ndE.zero), .bool (gT g Z.T n).isSome] = .tuple #[.agg #[.int .u8 0, .int .i64 0, .int .i64 0, .slice none 0 0, .string ⟨#[]⟩, .pointer none, .int .i64 0, .int .i64 0], .bool false] by rw [gT_none q]; rfl)
              have HQ := Lib.hid q
              have HO := Lib.hid (((HP.out.2.1.alloc (Obj.cells #[.int .i64 2, .int .i64 n, .string ⟨#[]⟩] 47)).alloc (Obj.cells #[.int .u8 0, .int .i64 0, .int .i64 0, .slice none 0 0, .string ⟨#[]⟩, .pointer none, .int .i64 0, .int .i64 0] 125)).alloc (Obj.cells #[.int .i64 2, .int .i64 n, .string ⟨#[]⟩] 47))
              have hN := Holds.new ((wr.alloc (Obj.cells #[.int .i64 2, .int .i64 n, .string ⟨#[]⟩] 47)).alloc (Obj.cells #[.int .u8 0, .int .i64 0, .int .i64 0, .slice none 0 0, .string ⟨#[]⟩, .pointer none, .int .i64 0, .int .i64 0] 125)) #[.int .i64 2, .int .i64 n, .string ⟨#[]⟩] 47
              rw [World.size_alloc, World.size_alloc] at hN
              have HNW := Lib.hid hN
              have HG6 := Lib.hid ((((Gr.refl [] wr).alloc (Obj.cells #[.int .i64 2, .int .i64 n, .string ⟨#[]⟩] 47)).alloc (Obj.cells #[.int .u8 0, .int .i64 0, .int .i64 0, .slice none 0 0, .string ⟨#[]⟩, .pointer none, .int .i64 0, .int .i64 0] 125)).alloc (Obj.cells #[.int .i64 2, .int .i64 n, .string ⟨#[]⟩] 47))
              clear q hN
              go_wp2_with (first
                | (at_lookup; refine wp_lookZ_oks rfl _ _ rfl rfl HM.out undInt19 undNodes n rfl HW.out _ HV.out ?_)
                | (at_builtin; refine wpList_append_lies _ rfl _ _ 30 rfl w2.heap.size 47 i0 _ 3 32 Tryz.underlying30 hi hz0 hz1 hz2 rfl (by decide) _ _ _ rfl HO.out ⟨wr.heap.size + 1 + 1, 0, none⟩ 1 1 [.int .i64 2, .int .i64 n, .string ⟨#[]⟩] rfl rfl (World.news_of_block HNW.out) (hone 2) (by decide) (by unfold maxLen; omega) (by omega) (by have h1 := HP.out.2.2.1.size; rw [World.size_alloc, World.size_alloc, World.size_alloc]; omega) _ rfl ?_; intro g7 cp7 w7 hown' hgrow hat hlt7))
              have HF := Lib.hid (And.intro ((HP.out.2.2.1.next0 HG6.out).grown hgrow fun q hq => .inr (World.ownsRow.lt HO.out q hq).1) (And.intro (own_gr (own_gr0 HP.out.2.2.2.1 HG6.out) (Gr.ofGrown hgrow) fun b hb m => HP.out.2.2.2.2 b (Option.mem_toList.1 m) hb) (show ∀ q, (Value.slice (some ⟨g7, 0, none⟩) (Ls.length + k + 1) cp7).ownBlock = some q → (Value.slice (some ⟨gs, 0, none⟩) Li.length sc).ownBlock ≠ some q from fun q h1 h2 => by
                have e1 : g7 = q := by simpa [Value.ownBlock] using h1
                rcases hat with h3 | h3
                · exact HP.out.2.2.2.2 q (by rw [← e1]; exact h3) h2
                · have h4 := (World.ownsRow.lt HP.out.2.2.2.1 q h2).2
                  rw [World.size_alloc, World.size_alloc, World.size_alloc] at h3
                  omega)))
              refine ⟨⟨k + 1, _, by omega, by first | rfl | (rw [show wrap64 ((k : Int) + 1) = _ from u1]), rfl, ?_, HF.out.1, HF.out.2.1, Lib.hid HF.out.2.2⟩, ?_⟩
              case refine_2 => first | (rw [show wrap64 ((k : Int) + 1) = _ from u1]; simp [intOf]; omega) | (simp [intOf]; omega)
              rw [List.take_succ_eq_append_getElem hkl, List.map_append, ← List.append_assoc, List.flatMap_append]
              have e : nodeDeed Z.T Li[k] = (2, n, ⟨#[]⟩) := by rw [← HP.out.1]; unfold nodeDeed; rw [HQ.out]; rfl
              simp only [List.map_cons, List.map_nil, List.flatMap_cons, List.flatMap_nil, List.append_nil]
              rw [e, show encD (2, n, ⟨#[]⟩) = [.int .i64 2, .int .i64 n, .string ⟨#[]⟩] from rfl]
              exact hown'
        · obtain rfl : k = Li.length := by omega
          have GW := HL.out.2.2.2.next0 G
          have hT := HH.out.1.gr0 GW
          obtain ⟨w5, hrun5, hm5, hg5⟩ := hT.spots.clearT 0
          have hT5 : MapZ setE 3 w5 A.ib K (fun z => if Z.sn z then some () else none) := hT.inodes.gr hg5 (by rw [List.mem_singleton]; exact hT.ne.2.2)
          obtain ⟨w6, hrun6, hm6, hg6⟩ := hT5.clearT undInodes 0
          have c2 := hT.hd.cell 2
          have c1 := (hT.hd.gr hg5 (by rw [List.mem_singleton]; exact fun e => hT.tn (by rw [e]; simp [TrA.own]))).cell 1
          have sub : ∀ b ∈ [A.sb, A.ib], b ∈ A.own := fun b hb => by
            rcases List.mem_cons.1 hb with rfl | hb
            · simp [TrA.own]
            · rw [List.mem_singleton] at hb; subst hb; simp [TrA.own]
          have hq : Gr [A.sb, A.ib] wr w6 := (hg5.mono (fun b hb => List.mem_cons.2 (.inl (List.mem_singleton.1 hb)))).trans (Gr.mono hg6 (fun b hb => List.mem_cons_of_mem _ hb))
          have hT6 : TrG w6 A Z.told K g := by
            refine ⟨hT.hd.gr hq fun e => hT.tn (sub _ e), hT.nodes.gr hq fun e => ?_, fun m y hy => (hT.nd m y hy).gr hq sub, hm6.mono (Nat.zero_le _), (hm5.gr hg6 (by rw [List.mem_singleton]; exact fun e => hT.ne.2.2 e.symm)).mono (Nat.zero_le _), hT.ne, hT.tn, hT.len⟩
            rcases List.mem_cons.1 e with e | e
            · exact hT.ne.2.1 e
            · exact hT.ne.1 (List.mem_singleton.1 e)
          have ho6 := own_gr ho hq fun q h1 h2 => by
            have h3 := (World.ownsRow.lt ho q h1).1
            have h4 := HH.out.1.own_lt q (sub q h2)
            have h5 := HL.out.2.2.2.size
            omega
          rw [List.take_length] at ho6
          have HF := Lib.hid (And.intro hT6 (And.intro (own_low (base' := w.heap.size) ho6 HL.out.2.2.2.size) (GW.of0.trans (hq.mono sub))))
          have hmem : ∀ z, z ∈ Li ↔ WfZ z ∧ Z.sn z = true := fun z => by
            rw [HS.out.2.2.1.mem_iff, HI.out.2.1]
            constructor
            · rintro ⟨hz, h1⟩
              rw [(HM1.out.1 z hz).1] at h1
              have h1 : (if Z.sn z then some () else none).isSome = true := h1
              cases c : Z.sn z with
              | true => exact ⟨hz, rfl⟩
              | false => rw [c] at h1; cases h1
            · rintro ⟨hz, h1⟩
              refine ⟨hz, ?_⟩
              rw [(HM1.out.1 z hz).1]
              show (if Z.sn z then some () else none).isSome = true
              rw [h1]; rfl
          have hspm : ∀ p : Int × ByteArray, WfZ p.1 → p.2.size ≤ maxLen → (p ∈ Ls ↔ Z.sp p.1 p.2 = true) := fun p h1 h2 => by
            rw [HL.out.1.mem p h1 h2, HD0.out.2 p.1 p.2 h1 h2]
          have HMM := Lib.hid (And.intro hmem hspm)
          clear hT hT5 hT6 ho6 ho hm5 hm6 hg5 hg6 hq sub GW G hsr hne hmem hspm hk hkl
          go_wp2_with fail
          go_ret
          exact ⟨_, Ls, Li, rfl, HL.out.1.nd, HL.out.2.1, HMM.out.2, HL.out.1.wf, HS.out.2.1, HMM.out.1, HF.out.2.1, HF.out.1, HF.out.2.2⟩
end
end Go.Proofs.YtgleopahldpajaaGreat
