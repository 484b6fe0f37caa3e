/-
  DqAg: DiR, DiT, SumP, GapM.
-/
import Derived.Test.YtefiapmgdjlnnaaDoorDnAa
import Derived.Test.YtefiapmgdjlnnaaDoorDnAb
import Derived.Test.YtefiapmgdjlnnaaDoorDnAc
import Derived.Test.YtefiapmgdjlnnaaDoorDnAd
import Derived.Test.YtefiapmgdjlnnaaDoorDnAe
import Derived.Test.YtefiapmgdjlnnaaDoorDnAf
import Derived.Test.YtefiapmgdjlnnaaDoorDnAg
import Derived.Test.YtefiapmgdjlnnaaDoorDnAh
import Derived.Test.YtefiapmgdjlnnaaDoorDnAi
import Derived.Test.YtefiapmgdjlnnaaDoorDqAf
import Derived.Test.YtefiapmgdjlnnaaDoorDqAc
import Derived.Test.YtefiapmgdjlnnaaDoorDqAd
import Derived.Test.YtefiapmgdjlnnaaDoorDqAa
import Derived.Shelf.SlMaps.Clone
import Derived.Ground.SlmcProg
import Derived.Deep.QuietTactic
import Derived.BigQuiet

set_option linter.unusedVariables false

/-
  Layer 17 (dir), the document's Drop, walked.
-/
namespace Go.Proofs.YtefiapmgdjlnnaaDoor
open Go.RowKit Go.Shelf
set_option linter.unusedVariables false
theorem remE_snoc (P : List Ent) (x : Ent) (s : ByteArray) : remE (P ++ [x]) s = remE P s ++ (if x.1 = s then [] else [x]) := by
  unfold remE
  rw [List.filter_append]
  by_cases h : x.1 = s <;> simp [h]
theorem remE_len (P : List Ent) (s : ByteArray) : (remE P s).length ≤ P.length := List.length_filter_le _ _
section
variable {w : World} {base : Nat} {L : List Ent} {ao : Option Addr} {cap nb : Nat}
set_option maxHeartbeats 8000000 in
set_option maxRecDepth 100000 in
theorem rdrop_no (h : EntR w base (.slice ao L.length cap) L) (hL : L.length ≤ 100000) (s : ByteArray) (hf : findE L s = -1) :
    Calls Tryd.prog 12 #[dirV ao L.length cap nb, .string s] w fun e w' => e = .returned (.tuple #[dirV ao L.length cap nb, .int .i64 13]) ∧ Gr [] w w' := by
  have H0 := Lib.hid (show EntR ((w.alloc (Obj.cells #[.slice ao L.length cap, .int .i64 (nb : Int)] 27)).alloc (Obj.cells #[.slice none 0 0, .int .i64 0] 27)) base (.slice ao L.length cap) L ∧ Holds ((w.alloc (Obj.cells #[.slice ao L.length cap, .int .i64 (nb : Int)] 27)).alloc (Obj.cells #[.slice none 0 0, .int .i64 0] 27)) w.heap.size #[.slice ao L.length cap, .int .i64 (nb : Int)] 27 ∧ Holds ((w.alloc (Obj.cells #[.slice ao L.length cap, .int .i64 (nb : Int)] 27)).alloc (Obj.cells #[.slice none 0 0, .int .i64 0] 27)) (w.heap.size + 1) #[.slice none 0 0, .int .i64 0] 27 ∧ Gr [] w ((w.alloc (Obj.cells #[.slice ao L.length cap, .int .i64 (nb : Int)] 27)).alloc (Obj.cells #[.slice none 0 0, .int .i64 0] 27)) from by
    have g2 := ((Gr.refl [] w).alloc (Obj.cells #[.slice ao L.length cap, .int .i64 (nb : Int)] 27)).alloc (Obj.cells #[.slice none 0 0, .int .i64 0] 27)
    refine ⟨h.gr0 g2, (Holds.new w _ _).alloc _, ?_, g2⟩
    have r := Holds.new (w.alloc (Obj.cells #[.slice ao L.length cap, .int .i64 (nb : Int)] 27)) #[.slice none 0 0, .int .i64 0] 27
    rw [World.size_alloc] at r
    exact r)
  have HFd := Lib.hid (fun W (hE : EntR W base (.slice ao L.length cap) L) => rfind_any L base (.slice ao L.length cap) (nb : Int) s W hE (by omega))
  rw [hf] at HFd
  clear h hf
  go_enter Tryd.func12, Tryd.ntmps12
  go_upto_region 1 with fail
  generalize ((w.alloc (Obj.cells #[.slice ao L.length cap, .int .i64 (nb : Int)] 27)).alloc (Obj.cells #[.slice none 0 0, .int .i64 0] 27)) = w1 at *
  obtain ⟨b0, hb0⟩ : ∃ x, w.heap.size = x := ⟨_, rfl⟩
  rw [hb0] at H0 ⊢
  have HB0 := Lib.hid hb0
  clear hb0
  have c0 := H0.out.2.1.cell 0
  have c1 := H0.out.2.1.cell 1
  go_wp2_with fail
  refine (HFd.out _ H0.out.1).mono ?_
  rintro e w2 ⟨rfl, g2⟩
  have b0w := (H0.out.2.1.gr0 g2)
  have r0w := (H0.out.2.2.1.gr0 g2)
  have HG := Lib.hid (H0.out.2.2.2.next0 g2)
  clear c0 c1 g2 H0 HFd
  have c0 := b0w.cell 0
  have c1 := b0w.cell 1
  have d0 := r0w.cell 0
  have d1 := r0w.cell 1
  have f0 := r0w.frozen 0
  have f1 := r0w.frozen 1
  have HF := Lib.hid ((HG.out.setCell (p := ⟨b0 + 1, 0, none⟩) (.inr (by have := HB0.out; show _ ≤ b0 + 1; omega)) (.slice ao L.length cap)).setCell (p := ⟨b0 + 1, 1, none⟩) (.inr (by have := HB0.out; show _ ≤ b0 + 1; omega)) (.int .i64 (nb : Int)))
  clear b0w r0w HG
  go_wp2_with fail
  exact bodyPost_ret (v := .tuple #[dirV ao L.length cap nb, .int .i64 13]) (by simp [results, Tryd.results12, go_sem, *]) rfl ⟨rfl, HF.out⟩
set_option maxHeartbeats 40000000 in
set_option maxRecDepth 100000 in
theorem rdrop_ok (h : EntR w base (.slice ao L.length cap) L) (hL : L.length ≤ 100000) (hlv : ∀ g, (Value.slice ao L.length cap).ownBlock = some g → g < w.heap.size) (s : ByteArray) (a : Nat) (hf : findE L s = (a : Int)) (hu : ∀ i (hi : i < L.length), L[i].1 = s ↔ i = a) :
    Calls Tryd.prog 12 #[dirV ao L.length cap nb, .string s] w fun e w' => ∃ ao' cap', e = .returned (.tuple #[dirV ao' (remE L s).length cap' nb, .int .i64 0]) ∧ EntR w' w.heap.size (.slice ao' (remE L s).length cap') (remE L s) ∧ Gr [] w w' := by
  obtain ⟨i0, hi, hz0, hz1, hz2⟩ := info_parts infoR17
  have HIN := Lib.hid (And.intro hi (And.intro hz0 (And.intro hz1 hz2)))
  have HU := Lib.hid hu
  have HLV := Lib.hid hlv
  clear hi hz0 hz1 hz2 hu hlv
  have H0 := Lib.hid (show EntR ((w.alloc (Obj.cells #[.slice ao L.length cap, .int .i64 (nb : Int)] 27)).alloc (Obj.cells #[.slice none 0 0, .int .i64 0] 27)) base (.slice ao L.length cap) L ∧ Holds ((w.alloc (Obj.cells #[.slice ao L.length cap, .int .i64 (nb : Int)] 27)).alloc (Obj.cells #[.slice none 0 0, .int .i64 0] 27)) w.heap.size #[.slice ao L.length cap, .int .i64 (nb : Int)] 27 ∧ Holds ((w.alloc (Obj.cells #[.slice ao L.length cap, .int .i64 (nb : Int)] 27)).alloc (Obj.cells #[.slice none 0 0, .int .i64 0] 27)) (w.heap.size + 1) #[.slice none 0 0, .int .i64 0] 27 ∧ Gr [] w ((w.alloc (Obj.cells #[.slice ao L.length cap, .int .i64 (nb : Int)] 27)).alloc (Obj.cells #[.slice none 0 0, .int .i64 0] 27)) from by
    have g2 := ((Gr.refl [] w).alloc (Obj.cells #[.slice ao L.length cap, .int .i64 (nb : Int)] 27)).alloc (Obj.cells #[.slice none 0 0, .int .i64 0] 27)
    refine ⟨h.gr0 g2, (Holds.new w _ _).alloc _, ?_, g2⟩
    have r := Holds.new (w.alloc (Obj.cells #[.slice ao L.length cap, .int .i64 (nb : Int)] 27)) #[.slice none 0 0, .int .i64 0] 27
    rw [World.size_alloc] at r
    exact r)
  have HFd := Lib.hid (fun W (hE : EntR W base (.slice ao L.length cap) L) => rfind_any L base (.slice ao L.length cap) (nb : Int) s W hE (by omega))
  rw [hf] at HFd
  clear h hf
  go_enter Tryd.func12, Tryd.ntmps12
  go_upto_region 1 with fail
  generalize ((w.alloc (Obj.cells #[.slice ao L.length cap, .int .i64 (nb : Int)] 27)).alloc (Obj.cells #[.slice none 0 0, .int .i64 0] 27)) = w1 at *
  obtain ⟨b0, hb0⟩ : ∃ x, w.heap.size = x := ⟨_, rfl⟩
  rw [hb0] at H0 ⊢
  have HB0 := Lib.hid hb0
  clear hb0
  have c0 := H0.out.2.1.cell 0
  have c1 := H0.out.2.1.cell 1
  go_wp2_with fail
  refine (HFd.out _ H0.out.1).mono ?_
  rintro e w2 ⟨rfl, g2⟩
  have H1 := Lib.hid (show RpI w (w2.alloc (Obj.cells #[.slice none 0 0, .int .i64 (nb : Int)] 27)) base b0 (b0 + 1) w2.heap.size (.slice ao L.length cap) (.slice none 0 0) (nb : Int) L [] from by
    have g3 := g2.alloc (Obj.cells #[.slice none 0 0, .int .i64 (nb : Int)] 27)
    have hlt := (H0.out.2.2.1.gr0 g2).lt
    have hb := HB0.out
    exact ⟨H0.out.2.2.2.next0 g3, H0.out.1.gr0 g3, H0.out.2.1.gr0 g3, H0.out.2.2.1.gr0 g3, Holds.new w2 _ _, World.ownsRow_nil _ _ _ _, ⟨by omega, by omega, by omega⟩, HLV.out⟩)
  have c0 := (H0.out.2.1.gr0 g2).cell 0
  have c1 := (H0.out.2.1.gr0 g2).cell 1
  clear H0 HFd g2 HLV
  have ha0 : (0 : Int) ≤ (a : Int) := by omega
  go_upto_region 6 with fail
  generalize (w2.alloc (Obj.cells #[.slice none 0 0, .int .i64 (nb : Int)] 27)) = w3 at *
  obtain ⟨ob, hob⟩ : ∃ x, w2.heap.size = x := ⟨_, rfl⟩
  rw [hob] at H1 ⊢
  clear hob c0 c1
  go_loopw [8] (fun z wr => ∃ (i : Nat) (v : Value), i ≤ L.length ∧ z = .int .i64 (i : Int) ∧ RpI w wr base b0 (b0 + 1) ob (.slice ao L.length cap) v (nb : Int) L (remE (L.take i) s)) (fun z _ => L.length - (intOf z).toNat)
  case atStart => exact ⟨0, _, by omega, rfl, H1.out⟩
  case round =>
    clear H1
    obtain ⟨i, v, hi, rfl, Q⟩ := hrel
    have HQ := Lib.hid Q
    clear Q
    have cb := HQ.out.bx.cell 0
    by_cases hlt : i < L.length
    · as_aux_lemma =>
        obtain ⟨g, cap2, e, _, hg2, ca, cn⟩ := HQ.out.old.at' hlt
        injection e with e1 _ e2
        subst e1
        have ib : (i : Int) < (L.length : Int) := by omega
        have ib0 : (0 : Int) ≤ (i : Int) := by omega
        have hux := HU.out i hlt
        have hsn : remE (L.take (i + 1)) s = remE (L.take i) s ++ (if L[i].1 = s then [] else [L[i]]) := by rw [take_snoc L i hlt, remE_snoc]
        have hlen : (remE (L.take i) s).length ≤ 100000 := by
          have := remE_len (L.take i) s
          rw [List.length_take] at this
          omega
        obtain ⟨x, hx⟩ : ∃ x, x = L[i] := ⟨_, rfl⟩
        have HX := Lib.hid hx
        rw [← hx] at ca cn hux hsn
        obtain ⟨O, hO⟩ : ∃ O, O = remE (L.take i) s := ⟨_, rfl⟩
        rw [← hO] at HQ hlen hsn
        have HST := Lib.hid hsn
        have HUX := Lib.hid hux
        clear hx hO e2 hsn hux
        by_cases hia : i = a
        · have hii : (i : Int) = (a : Int) := by omega
          clear ca cn hg2
          subst hia
          go_wp2_with fail
          go_roundw
          case rel => exact ⟨i + 1, v, by omega, by go_num, by rw [HST.out, if_pos (HUX.out.2 rfl), List.append_nil]; exact HQ.out⟩
          case measure => simp [intOf]; omega
        · have hii : (i : Int) ≠ (a : Int) := by omega
          have HIA := Lib.hid hia
          clear hia
          obtain ⟨xs, xn⟩ := x
          dsimp only at ca cn HST HUX
          have HR := HQ
          go_upto_region 9 with fail
          obtain ⟨hi0, hz0, hz1, hz2⟩ := HIN.out
          have co := HR.out.out.cell 0
          have hlw := HR.out.lo
          have gd := (Gr.refl [] wr).drew
          have ga := (Gr.refl [] wr).alloc (Obj.cells #[.string xs, .int .i64 (xn : Int)] 41)
          have gda := gd.alloc (Obj.cells #[.string xs, .int .i64 (xn : Int)] 41)
          have hbw := HR.out.bx.lt
          have how := HR.out.out.lt
          have a1 := (gd.cell0 hbw).trans cb
          have a2 := (gd.cell0 how).trans co
          have a3 := (gd.cell0 hg2).trans ca
          have a4 := (gd.cell0 hg2).trans cn
          have b1 := (ga.cell0 hbw).trans cb
          have b2 := (ga.cell0 how).trans co
          have b3 := (ga.cell0 hg2).trans ca
          have b4 := (ga.cell0 hg2).trans cn
          have d1 := (gda.cell0 hbw).trans cb
          have d2 := (gda.cell0 how).trans co
          have d3 := (gda.cell0 hg2).trans ca
          have d4 := (gda.cell0 hg2).trans cn
          have HGa := Lib.hid ga
          have hbs : ob + 1 ≤ (wr.alloc (Obj.cells #[.string xs, .int .i64 (xn : Int)] 41)).heap.size := by rw [World.size_alloc]; omega
          have HBS := Lib.hid hbs
          clear gd ga gda hbs
          go_region_law ((have hT3 := HR.out.own.gr0 HGa.out; have hn3 := World.news_of_block (Go.Proofs.YtefiapmgdjlnnaaDoor.Holds.new wr #[.string xs, .int .i64 (xn : Int)] 41); refine step_append_lies _ rfl _ _ 25 rfl (ob + 1) 41 i0 _ 2 24 Tryd.underlying25 hi0 hz0 hz1 hz2 rfl (by decide) v O.length (flatE O) rfl hT3 ⟨wr.heap.size, 0, none⟩ 1 1 [.string xs, .int .i64 (xn : Int)] rfl rfl hn3 (oneE xs xn) Nat.one_pos (by unfold maxLen; omega) (by omega) HBS.out _ rfl ?_; intro g6 cp6 w7 hown6 hgrow6 hat6 hlt6; have HR7 := Lib.hid (HR.out.snoc (x := (xs, xn)) HGa.out.drew hgrow6 hown6); have h7 := HR.out.held HGa.out.drew hgrow6; have o7 := h7.cell 0; have f7 := h7.frozen 0; clear hown6 hgrow6 hat6 hlt6 h7 hT3 hn3))
  
          all_goals
            go_wp2_with fail
            go_roundw
            case rel => exact ⟨i + 1, _, by omega, by go_num, by rw [HST.out, if_neg (fun q => HIA.out (HUX.out.1 q))]; exact HR7.out⟩
            case measure => simp [intOf]; omega
    · obtain rfl : i = L.length := by omega
      rw [List.take_length] at HQ
      obtain ⟨M, hM⟩ : ∃ M, M = remE L s := ⟨_, rfl⟩
      rw [← hM] at HQ
      have HMM := Lib.hid hM
      clear hM hlt hi
      obtain ⟨ao2, cap2, hv2⟩ := HQ.out.own.shape
      subst hv2
      have hlo := HQ.out.lo
      have o0 := HQ.out.out.cell 0
      have o1 := HQ.out.out.cell 1
      have r0 := HQ.out.rs.cell 0
      have r1 := HQ.out.rs.cell 1
      have f0 := HQ.out.rs.frozen 0
      have f1 := HQ.out.rs.frozen 1
      have HF := Lib.hid (show Gr [] w ((wr.setCell ⟨b0 + 1, 0, none⟩ (.slice ao2 M.length cap2)).setCell ⟨b0 + 1, 1, none⟩ (.int .i64 (nb : Int))) ∧ EntR ((wr.setCell ⟨b0 + 1, 0, none⟩ (.slice ao2 M.length cap2)).setCell ⟨b0 + 1, 1, none⟩ (.int .i64 (nb : Int))) (ob + 1) (.slice ao2 M.length cap2) M from by
        have g3 : Gr [b0 + 1] wr ((wr.setCell ⟨b0 + 1, 0, none⟩ (.slice ao2 M.length cap2)).setCell ⟨b0 + 1, 1, none⟩ (.int .i64 (nb : Int))) := ((Gr.refl _ _).setCell (p := ⟨b0 + 1, 0, none⟩) (.inl (List.mem_singleton.2 rfl)) _).setCell (p := ⟨b0 + 1, 1, none⟩) (.inl (List.mem_singleton.2 rfl)) _
        exact ⟨HQ.out.gr.nextN g3 fun x hx => .inr (by rw [List.mem_singleton] at hx; omega), HQ.out.own.gr g3 fun b hb e => by rw [List.mem_singleton] at e; have := (HQ.out.own.lt b hb).1; omega⟩)
      have HBW := Lib.hid hlo
      clear hlo
      go_wp2_with fail
      refine bodyPost_ret (v := .tuple #[.agg #[.slice ao2 M.length cap2, .int .i64 (nb : Int)], .int .i64 0]) (by simp [results, Tryd.results12, go_sem, *]) rfl ⟨ao2, cap2, ?_, ?_, HF.out.1⟩
      · rw [← HMM.out]
      · rw [← HMM.out]
        exact ⟨HF.out.2.1, by rcases HF.out.2.2 with q | ⟨g1, c1, cu, q1, q2, q3⟩; exact .inl q; exact .inr ⟨g1, c1, cu, q1, by have := HBW.out.1; have := HBW.out.2.2; have := HB0.out; omega, q3⟩⟩
end
end Go.Proofs.YtefiapmgdjlnnaaDoor

/-
  Layer 17 (dir): Copy.
-/
namespace Go.Proofs.YtefiapmgdjlnnaaDoor
open Go.RowKit Go.Shelf
set_option linter.unusedVariables false

def DiT.cl_ren : Go.Shelf.Ren := ⟨fun | 5 => 29 | 7 => 40 | n => n, fun | 23 => 59 | 25 => 9 | 3 => 3 | 4 => 4 | 20 => 20 | n => n, fun | n => n⟩
theorem DiT.cl : Go.Proofs.SlLaysW.n5 Tryd.prog DiT.cl_ren where
  mixed := by kernel_rfl
  f5 := ⟨ "maps.Clone[map[string]int,string,int]", by decide, Tryd.func29.trans (congrArg some (by kernel_rfl))⟩
  f7 := Tryd.func40.trans (congrArg some (by kernel_rfl))
  t4 := Tryd.underlying4
  a4 := Tryd.isAgg4
  z4 := Tryd.sizeOf4
  v4 := Tryd.zeroValue4
  t20 := Tryd.underlying20
  a20 := Tryd.isAgg20
  z20 := Tryd.sizeOf20
  v20 := Tryd.zeroValue20
  t23 := Tryd.underlying59
  a23 := Tryd.isAgg59
  z23 := Tryd.sizeOf59
  v23 := Tryd.zeroValue59
theorem clone_any (b n : Nat) (f : ByteArray → Option Nat) (W : World) (h : MapT niE 9 W b n f) :
    Calls Tryd.prog 29 #[.map (some b)] W fun e w' => ∃ m, e = .returned (.map (some m)) ∧ W.heap.size ≤ m ∧ MapT niE 9 w' m n f ∧ Gr [] W w' := by
  obtain ⟨D, ho, hi, hs⟩ := h
  exact (AnyW.maps_Clone_owns DiT.cl _ _ b n D W ho).mono fun e w' q => ⟨_, q.1, Nat.le_refl _, ⟨D, q.2.1, hi, hs⟩, Gr.ofBelow q.2.2.2⟩
theorem MapT.ob {w : World} {b n k : Nat} {f : ByteArray → Option Nat} (h : MapT niE k w b n f) : ∃ es clock, w.heap[b]? = some (.map es clock) := by
  obtain ⟨D, ho, _, _⟩ := h
  obtain ⟨es, clock, hb, _⟩ := ho
  exact ⟨es, clock, hb⟩
/-- A copy at work. -/
structure CpI (w wr : World) (cb : Nat) (v cv : Value) (i nb : Nat) (mb : Nat → Nat) (F : ByteArray → Option Nat) (N : List ByteArray) : Prop where
  gr : Gr [] w wr
  hd : Holds wr cb #[v, cv] 65
  own : wr.ownsRow (cb + 1) 59 1 v i ((List.range i).map fun j => .map (some (mb j)))
  mp : ∀ j, j < i → MapT niE 9 wr (mb j) (cntB nb j N) (atB nb j F)
  hi : ∀ j, j < i → cb < mb j
  ne : ∀ j k, j < i → k < i → mb j = mb k → j = k
  lo : w.heap.size ≤ cb
section
variable {w wr W w7 : World} {cb i nb m : Nat} {v v' cv : Value} {mb : Nat → Nat} {F : ByteArray → Option Nat} {N : List ByteArray}
theorem CpI.far (h : CpI w wr cb v cv i nb mb F N) {j : Nat} (hj : j < i) : mb j ∉ v.ownBlock.toList := fun e => by
  obtain ⟨es, clock, hb⟩ := (h.mp j hj).ob
  rcases h.own.2 with ⟨rfl, _⟩ | ⟨g, cap, cur, rfl, _, hg, _⟩
  · simp [Value.ownBlock] at e
  · have e2 : mb j = g := by simpa [Value.ownBlock, eq_comm] using e
    rw [e2, hg] at hb
    cases hb
theorem CpI.gr0 (h : CpI w wr cb v cv i nb mb F N) (g : Gr [] wr W) : CpI w W cb v cv i nb mb F N := ⟨h.gr.next0 g, h.hd.gr0 g, own_gr0 h.own g, fun j hj => (h.mp j hj).gr g (by simp), h.hi, h.ne, h.lo⟩
theorem CpI.held (h : CpI w wr cb v cv i nb mb F N) (gA : Gr [] wr W) (hgrow : W.grownBy w7 v.ownBlock) : Holds w7 cb #[v, cv] 65 :=
  (h.gr0 gA).hd.gr (Gr.ofGrown hgrow) fun e => by have := (World.ownsRow.lt h.own cb (by simpa using e)).1; omega
theorem CpI.snoc (h : CpI w wr cb v cv i nb mb F N) (gA : Gr [] wr W) (hm : MapT niE 9 W m (cntB nb i N) (atB nb i F)) (hmn : wr.heap.size ≤ m) (hgrow : W.grownBy w7 v.ownBlock) (hown : w7.ownsRow (cb + 1) 59 1 v' (i + 1) ((List.range i).map (fun j => .map (some (mb j))) ++ [.map (some m)])) :
    CpI w (w7.setCell ⟨cb, 0, none⟩ v') cb v' cv (i + 1) nb (fun j => if j = i then m else mb j) F N := by
  have hd := h.gr0 gA
  have g2 := Gr.ofGrown hgrow
  have hlr : ∀ b, b ∈ v.ownBlock.toList → cb + 1 ≤ b ∧ b < wr.heap.size := fun b hb => World.ownsRow.lt h.own b (by simpa using hb)
  have g3 : Gr [cb] w7 (w7.setCell ⟨cb, 0, none⟩ v') := (Gr.refl _ _).setCell (p := ⟨cb, 0, none⟩) (.inl (List.mem_singleton.2 rfl)) _
  have hlo := h.lo
  have hcb := h.hd.lt
  have hlt : ∀ j, j < i → mb j < wr.heap.size := fun j hj => (h.mp j hj).lt
  refine ⟨(hd.gr.nextN g2 fun b hb => .inr (by have := hlr b hb; omega)).nextN g3 fun b hb => .inr (by rw [List.mem_singleton] at hb; omega), ?_, ?_, fun j hj => ?_, fun j hj => ?_, fun j k hj hk e => ?_, h.lo⟩
  · have r := (h.held gA hgrow).set 0 v'
    simpa using r
  · have e : (List.range (i + 1)).map (fun j => Value.map (some (if j = i then m else mb j))) = (List.range i).map (fun j => .map (some (mb j))) ++ [.map (some m)] := by
      rw [List.range_succ, List.map_append, List.map_cons, List.map_nil, if_pos rfl]
      congr 1
      refine List.map_congr_left fun j hj => ?_
      rw [if_neg (by have := List.mem_range.1 hj; omega)]
    rw [e]
    exact own_gr hown g3 fun b hb q => by rw [List.mem_singleton] at q; have := (World.ownsRow.lt hown b hb).1; omega
  · by_cases c : j = i
    · subst c
      rw [if_pos rfl]
      refine (hm.gr g2 fun q => ?_).gr g3 fun q => ?_
      · have := (hlr _ q).2; omega
      · rw [List.mem_singleton] at q; omega
    · rw [if_neg c]
      refine ((hd.mp j (by omega)).gr g2 (hd.far (by omega))).gr g3 fun q => ?_
      rw [List.mem_singleton] at q
      have := h.hi j (by omega)
      omega
  · by_cases c : j = i
    · rw [if_pos c]; omega
    · rw [if_neg c]; exact h.hi j (by omega)
  · by_cases c : j = i
    · by_cases d : k = i
      · omega
      · rw [if_pos c, if_neg d] at e
        have := hlt k (by omega)
        omega
    · by_cases d : k = i
      · rw [if_neg c, if_pos d] at e
        have := hlt j (by omega)
        omega
      · rw [if_neg c, if_neg d] at e
        exact h.ne j k (by omega) (by omega) e
theorem CpI.at' (h : CpI w wr cb v cv i nb mb F N) {g cap : Nat} (hv : v = .slice (some ⟨g, 0, none⟩) i cap) {j : Nat} (hj : j < i) : wr.cell? ⟨g, j, none⟩ = some (.map (some (mb j))) := by
  subst hv
  have c := World.ownsRow.cellAt h.own j (by omega)
  rw [c, List.getElem?_map, List.getElem?_range hj]
  rfl
end
theorem oneM (m : Nat) : ∀ u ∈ [Value.map (some m)], u.oneCell' = true := by simp [Value.oneCell']
set_option maxHeartbeats 8000000 in
set_option maxRecDepth 100000 in
theorem dcopy_any {w : World} {A : DiA} {F : ByteArray → Option Nat} {N : List ByteArray} (h : DiIs w A F N) : Calls Tryd.prog 15 #[.pointer (some ⟨A.db, 0, none⟩)] w fun e w' => ∃ A' : DiA, e = .returned (.pointer (some ⟨A'.db, 0, none⟩)) ∧ A'.nb = A.nb ∧ DiIs w' A' F N ∧ (∀ x ∈ A'.all, w.heap.size ≤ x) ∧ Gr [] w w' := by
  obtain ⟨i0, hi, hz0, hz1, hz2⟩ := info_parts infoM17
  have HIN := Lib.hid (And.intro hi (And.intro hz0 (And.intro hz1 hz2)))
  have HH := Lib.hid h
  have c0 := h.hd.cell 0
  have c1 := h.hd.cell 1
  obtain ⟨nb, hnb⟩ : ∃ nb, nb = A.nb := ⟨_, rfl⟩
  have HNB := Lib.hid hnb
  have HLE := Lib.hid (show 1 ≤ nb ∧ nb ≤ 65536 from by rw [hnb]; exact ⟨h.nb.1, h.nb.2.1⟩)
  rw [← hnb] at c0
  have H1 := Lib.hid (show CpI w (w.alloc (Obj.cells #[.slice none 0 0, .int .i64 (N.length : Int)] 65)) w.heap.size (.slice none 0 0) (.int .i64 (N.length : Int)) 0 nb (fun _ => 0) F N from ⟨(Gr.refl [] w).alloc _, Holds.new w _ _, World.ownsRow_nil _ _ _ _, fun j hj => by omega, fun j hj => by omega, fun j k hj => by omega, Nat.le_refl _⟩)
  have hdb := h.hd.lt
  clear h hnb hi hz0 hz1 hz2
  go_enter Tryd.func15, Tryd.ntmps15
  go_upto_region 5 with fail
  generalize (w.alloc (Obj.cells #[.slice none 0 0, .int .i64 (N.length : Int)] 65)) = w1 at *
  obtain ⟨cb, hcb⟩ : ∃ x, w.heap.size = x := ⟨_, rfl⟩
  rw [hcb] at H1 hdb ⊢
  have HCB := Lib.hid hcb
  clear hcb c0 c1 hdb
  go_loopw [19] (fun z wr => ∃ (i : Nat) (v : Value) (mb : Nat → Nat), i ≤ nb ∧ z = .int .i64 (i : Int) ∧ CpI w wr cb v (.int .i64 (N.length : Int)) i nb mb F N) (fun z _ => nb - (intOf z).toNat)
  case atStart => exact ⟨0, _, _, by omega, rfl, H1.out⟩
  case round =>
    clear H1
    obtain ⟨i, v, mb, hi, rfl, Q⟩ := hrel
    have HQ := Lib.hid Q
    clear Q
    have hnb := HLE.out
    by_cases hlt : i < nb
    · as_aux_lemma =>
        have H2 := HH.out.gr0 HQ.out.gr
        have ck := H2.bk.at' i (by rw [← HNB.out]; exact hlt)
        have HC := Lib.hid (fun W (g : Gr [] wr W) => clone_any (A.mb i) (cntB nb i N) (atB nb i F) W (by have r := (H2.gr0 g).bk.mp i (by rw [← HNB.out]; exact hlt); rw [← HNB.out] at r; exact r))
        have b1 : (i : Int) < (nb : Int) := by omega
        have b2 : (0 : Int) ≤ (i : Int) := by omega
        have HLT := Lib.hid hlt
        clear H2
        go_upto_region 7 with fail
        obtain ⟨ao, cap, hv⟩ := own_shape HQ.out.own
        subst hv
        have s0 : wr.cell? ⟨cb, 0, none⟩ = some (.slice ao i cap) := HQ.out.hd.cell 0
        have s0d : wr.drew.cell? ⟨cb, 0, none⟩ = some (.slice ao i cap) := HQ.out.hd.cell 0
        go_region_law ((first
          | (go_simp; go_at_call 29; (with_reducible refine Calls.mono (HC.out _ (by repeat (first | exact Gr.refl _ _ | refine Gr.drew ?_ | refine Gr.alloc ?_ _))) ?_); rintro rr w5 ⟨m5, rfl, hm5, hp5, g5⟩; have g5' : Gr [] wr w5 := (by refine Gr.trans ?_ g5; (repeat (first | exact Gr.refl _ _ | refine Gr.drew ?_))); have hm5' : wr.heap.size ≤ m5 := hm5; have H5 := Lib.hid (And.intro hp5 (And.intro hm5' g5')); have s5 : w5.cell? ⟨cb, 0, none⟩ = some (.slice ao i cap) := (HQ.out.gr0 g5').hd.cell 0; have s5a : (w5.alloc (Obj.cells #[.map (some m5)] 59)).cell? ⟨cb, 0, none⟩ = some (.slice ao i cap) := ((HQ.out.gr0 g5').hd.gr0 ((Gr.refl [] w5).alloc _)).cell 0; clear g5 g5' hm5 hm5' hp5)
          | (have gA := H5.out.2.2.alloc (Obj.cells #[.map (some m5)] 59); have hT3 := (HQ.out.gr0 gA).own; have hn3 := World.news_of_block (Go.Proofs.YtefiapmgdjlnnaaDoor.Holds.new w5 #[.map (some m5)] 59); have hbs : cb + 1 ≤ (w5.alloc (Obj.cells #[.map (some m5)] 59)).heap.size := (by have := (HQ.out.gr0 gA).hd.lt; omega); refine step_append_lies _ rfl _ _ 63 rfl (cb + 1) 59 i0 _ 1 8 Tryd.underlying63 HIN.out.1 HIN.out.2.1 HIN.out.2.2.1 HIN.out.2.2.2 rfl (by decide) (.slice ao i cap) i _ rfl hT3 ⟨w5.heap.size, 0, none⟩ 1 1 [.map (some m5)] rfl rfl hn3 (oneM m5) Nat.one_pos (by unfold maxLen; omega) (by omega) hbs _ rfl ?_; intro g6 cp6 w7 hown6 hgrow6 hat6 hlt6; have HR7 := Lib.hid (HQ.out.snoc gA (H5.out.1.gr ((Gr.refl [] w5).alloc _) (by simp)) H5.out.2.1 hgrow6 hown6); have h7 := HQ.out.held gA hgrow6; have o7 := h7.cell 0; have f7 := h7.frozen 0; clear hown6 hgrow6 hat6 hlt6 h7 hT3 hn3 hbs gA)))
        all_goals
          go_wp2_with fail
          go_roundw
          case rel => exact ⟨i + 1, _, _, HLT.out, by go_num, HR7.out⟩
          case measure => simp [intOf]; omega
    · obtain rfl : i = nb := by omega
      obtain ⟨g, cap, hv, hg1⟩ : ∃ g cap, v = .slice (some ⟨g, 0, none⟩) i cap ∧ cb + 1 ≤ g := by
        rcases HQ.out.own.2 with ⟨_, h0⟩ | ⟨g, cap, cur, hv, hb, _⟩
        · omega
        · exact ⟨g, cap, hv, hb⟩
      have HG := Lib.hid (show DiIs wr ⟨cb, g, i, cap, mb⟩ F N ∧ ∀ x ∈ (DiA.mk cb g i cap mb).all, w.heap.size ≤ x from by
        have hq := HQ.out
        have hH := HH.out
        have hN := HNB.out
        have hC := HCB.out
        have hgl : g < wr.heap.size := (World.ownsRow.lt hq.own g (by rw [hv]; rfl)).2
        have hbk : BkD wr g i mb F N := ⟨hgl, fun j hj => hq.at' hv hj, hq.mp, hq.ne, fun j hj e => hq.far hj (by rw [hv, e]; simp [Value.ownBlock])⟩
        refine ⟨⟨by rw [← hv]; exact hq.hd, hbk, hH.ok, ⟨by show cb ≠ g; omega, fun j hj => by have := hq.hi j hj; show mb j ≠ cb; omega⟩, by rw [hN]; exact hH.nb⟩, fun x hx => ?_⟩
        rcases List.mem_cons.1 hx with rfl | hx
        · exact hq.lo
        · rcases List.mem_cons.1 hx with hx | hx
          · rw [hx]; show w.heap.size ≤ g; omega
          · obtain ⟨j, hj, rfl⟩ := List.mem_map.1 hx
            have := hq.hi j (List.mem_range.1 hj)
            show _ ≤ mb j
            omega)
      have HGr := Lib.hid HQ.out.gr
      clear hlt hi hnb hv hg1 HQ
      go_wp2_with fail
      refine bodyPost_ret (v := .pointer (some ⟨cb, 0, none⟩)) (by simp [results, Tryd.results15, go_sem, *]) rfl ⟨_, ?_, ?_, HG.out.1, HG.out.2, HGr.out⟩
      · rfl
      · exact HNB.out
end Go.Proofs.YtefiapmgdjlnnaaDoor

/-
  Plain lemmas on the reference's register: bit by bit.
-/
namespace Go.Proofs.YtefiapmgdjlnnaaDoor
open Go.RowKit

/-- One bit goes through a register whose highest place comes first. -/
def st {w : Nat} (p x : BitVec w) (b : Bool) : BitVec w := (x <<< 1) ^^^ (if (x.msb ^^ b) = true then p else 0#w)
def bitsHi (u : UInt8) : List Bool := (List.range 8).map fun k => u.toNat.testBit (7 - k)
theorem st16 (x : BitVec 16) (b : Bool) : st 0x1021#16 x b = s16 x ^^^ (if b = true then 0x1021#16 else 0#16) := by
  unfold st s16
  rw [ite_xor, BitVec.xor_assoc]
def it16 : Nat → BitVec 16 → BitVec 16
  | 0, x => x
  | n + 1, x => it16 n (s16 x)
theorem fold16 (l : List Bool) : ∀ (x y : BitVec 16), l.foldl (st 0x1021#16) (x ^^^ y) = it16 l.length x ^^^ l.foldl (st 0x1021#16) y := by
  induction l with
  | nil => intro x y; rfl
  | cons b l ih =>
    intro x y
    have e : st 0x1021#16 (x ^^^ y) b = s16 x ^^^ st 0x1021#16 y b := by
      rw [st16, st16, s16_xor, BitVec.xor_assoc]
    simp only [List.foldl_cons, List.length_cons, it16]
    rw [e, ih]
theorem byte0_16 : ∀ n : Fin 256, (bitsHi (UInt8.ofNat n)).foldl (st 0x1021#16) 0#16 = b16 0#16 (UInt8.ofNat n) := by decide +kernel
theorem byte16 (x : BitVec 16) (u : UInt8) : (bitsHi u).foldl (st 0x1021#16) x = b16 x u := by
  have h0 := byte0_16 ⟨u.toNat, u.toNat_lt⟩
  have hu : UInt8.ofNat u.toNat = u := by simp
  simp only [hu] at h0
  have h1 := fold16 (bitsHi u) x 0#16
  rw [BitVec.xor_zero, h0] at h1
  rw [h1]
  have h2 := b16_xor x 0#16 0 u
  rw [BitVec.xor_zero, show (0 : UInt8) ^^^ u = u by simp] at h2
  rw [h2]
  congr 1
  have : (bitsHi u).length = 8 := by simp [bitsHi]
  rw [this]
  unfold b16
  simp [it16]
theorem sum16_bits (l : List UInt8) : ∀ x : BitVec 16, (l.flatMap bitsHi).foldl (st 0x1021#16) x = c16 l x := by
  induction l with
  | nil => intro x; rfl
  | cons u l ih =>
    intro x
    rw [List.flatMap_cons, List.foldl_append, byte16, ih]
    rfl

end Go.Proofs.YtefiapmgdjlnnaaDoor

/-
  The row that make lays, as facts for a walk.
-/
namespace Go.Proofs.YtefiapmgdjlnnaaDoor
open Go.RowKit

theorem infoInt : (Tryd.prog.info? 3).map (fun i => (i.zero, i.size, i.bytes)) = some (some (.int .i64 0), 1, 8) := by kernel_rfl
end Go.Proofs.YtefiapmgdjlnnaaDoor
