/-
  TaAi: DiT, DiG, TrB.
-/
import Derived.Test.YtgleopahldpajaaGreatTaAf
import Derived.Test.YtgleopahldpajaaGreatTaAh
import Derived.Test.YtgleopahldpajaaGreatTaAg
import Derived.Deep.AppendLies
import Derived.Deep.RegionLaw
import Derived.Shelf.SlMaps.Clone
import Derived.Ground.SlmcProg

set_option linter.unusedVariables false

/-
  Layer 17 (dir): Copy.
-/
namespace Go.Proofs.YtgleopahldpajaaGreat
open Go.RowKit Go.Shelf
set_option linter.unusedVariables false

def DiT.cl_ren : Go.Shelf.Ren := ⟨fun | 5 => 188 | 7 => 110 | n => n, fun | 23 => 219 | 25 => 9 | 3 => 3 | 4 => 4 | 20 => 20 | n => n, fun | n => n⟩
theorem DiT.cl : Go.Proofs.SlLaysW.n5 Tryz.prog DiT.cl_ren where
  mixed := by kernel_rfl
  f5 := ⟨ "maps.Clone[map[string]int,string,int]", by decide, Tryz.func188.trans (congrArg some (by kernel_rfl))⟩
  f7 := Tryz.func110.trans (congrArg some (by kernel_rfl))
  t4 := Tryz.underlying4
  a4 := Tryz.isAgg4
  z4 := Tryz.sizeOf4
  v4 := Tryz.zeroValue4
  t20 := Tryz.underlying20
  a20 := Tryz.isAgg20
  z20 := Tryz.sizeOf20
  v20 := Tryz.zeroValue20
  t23 := Tryz.underlying219
  a23 := Tryz.isAgg219
  z23 := Tryz.sizeOf219
  v23 := Tryz.zeroValue219
theorem own_shp {w : World} {base T k n : Nat} {v : Value} {l : List Value} (h : w.ownsRow base T k v n l) : ∃ ao cap, v = .slice ao n cap := by
  rcases h.2 with ⟨rfl, e⟩ | ⟨g, cap, cur, rfl, _⟩
  · exact ⟨none, 0, by rw [e]⟩
  · exact ⟨_, _, rfl⟩
theorem clone_any (b n : Nat) (f : ByteArray → Option Nat) (W : World) (h : MapT niE 9 W b n f) :
    Calls Tryz.prog 188 #[.map (some b)] W fun e w' => ∃ m, e = .returned (.map (some m)) ∧ W.heap.size ≤ m ∧ MapT niE 9 w' m n f ∧ Gr [] W w' := by
  obtain ⟨D, ho, hi, hs⟩ := h
  exact (AnyW.maps_Clone_owns DiT.cl _ _ b n D W ho).mono fun e w' q => ⟨_, q.1, Nat.le_refl _, ⟨D, q.2.1, hi, hs⟩, Gr.ofBelow q.2.2.2⟩
theorem MapT.ob {w : World} {b n k : Nat} {f : ByteArray → Option Nat} (h : MapT niE k w b n f) : ∃ es clock, w.heap[b]? = some (.map es clock) := by
  obtain ⟨D, ho, _, _⟩ := h
  obtain ⟨es, clock, hb, _⟩ := ho
  exact ⟨es, clock, hb⟩
/-- A copy at work. -/
structure CpI (w wr : World) (cb : Nat) (v cv : Value) (i nb : Nat) (mb : Nat → Nat) (F : ByteArray → Option Nat) (N : List ByteArray) : Prop where
  gr : Gr [] w wr
  hd : Holds wr cb #[v, cv] 210
  own : wr.ownsRow (cb + 1) 219 1 v i ((List.range i).map fun j => .map (some (mb j)))
  mp : ∀ j, j < i → MapT niE 9 wr (mb j) (cntB nb j N) (atB nb j F)
  hi : ∀ j, j < i → cb < mb j
  ne : ∀ j k, j < i → k < i → mb j = mb k → j = k
  lo : w.heap.size ≤ cb
section
variable {w wr W w7 : World} {cb i nb m : Nat} {v v' cv : Value} {mb : Nat → Nat} {F : ByteArray → Option Nat} {N : List ByteArray}
theorem CpI.far (h : CpI w wr cb v cv i nb mb F N) {j : Nat} (hj : j < i) : mb j ∉ v.ownBlock.toList := fun e => by
  obtain ⟨es, clock, hb⟩ := (h.mp j hj).ob
  rcases h.own.2 with ⟨rfl, _⟩ | ⟨g, cap, cur, rfl, _, hg, _⟩
  · simp [Value.ownBlock] at e
  · have e2 : mb j = g := by simpa [Value.ownBlock, eq_comm] using e
    rw [e2, hg] at hb
    cases hb
theorem CpI.gr0 (h : CpI w wr cb v cv i nb mb F N) (g : Gr [] wr W) : CpI w W cb v cv i nb mb F N := ⟨h.gr.next0 g, h.hd.gr0 g, own_gr0 h.own g, fun j hj => (h.mp j hj).gr g (by simp), h.hi, h.ne, h.lo⟩
theorem CpI.held (h : CpI w wr cb v cv i nb mb F N) (gA : Gr [] wr W) (hgrow : W.grownBy w7 v.ownBlock) : Holds w7 cb #[v, cv] 210 :=
  (h.gr0 gA).hd.gr (Gr.ofGrown hgrow) fun e => by have := (World.ownsRow.lt h.own cb (by simpa using e)).1; omega
theorem CpI.snoc (h : CpI w wr cb v cv i nb mb F N) (gA : Gr [] wr W) (hm : MapT niE 9 W m (cntB nb i N) (atB nb i F)) (hmn : wr.heap.size ≤ m) (hgrow : W.grownBy w7 v.ownBlock) (hown : w7.ownsRow (cb + 1) 219 1 v' (i + 1) ((List.range i).map (fun j => .map (some (mb j))) ++ [.map (some m)])) :
    CpI w (w7.setCell ⟨cb, 0, none⟩ v') cb v' cv (i + 1) nb (fun j => if j = i then m else mb j) F N := by
  have hd := h.gr0 gA
  have g2 := Gr.ofGrown hgrow
  have hlr : ∀ b, b ∈ v.ownBlock.toList → cb + 1 ≤ b ∧ b < wr.heap.size := fun b hb => World.ownsRow.lt h.own b (by simpa using hb)
  have g3 : Gr [cb] w7 (w7.setCell ⟨cb, 0, none⟩ v') := (Gr.refl _ _).setCell (p := ⟨cb, 0, none⟩) (.inl (List.mem_singleton.2 rfl)) _
  have hlo := h.lo
  have hcb := h.hd.lt
  have hlt : ∀ j, j < i → mb j < wr.heap.size := fun j hj => (h.mp j hj).lt
  refine ⟨(hd.gr.nextN g2 fun b hb => .inr (by have := hlr b hb; omega)).nextN g3 fun b hb => .inr (by rw [List.mem_singleton] at hb; omega), ?_, ?_, fun j hj => ?_, fun j hj => ?_, fun j k hj hk e => ?_, h.lo⟩
  · have r := (h.held gA hgrow).set 0 v'
    simpa using r
  · have e : (List.range (i + 1)).map (fun j => Value.map (some (if j = i then m else mb j))) = (List.range i).map (fun j => .map (some (mb j))) ++ [.map (some m)] := by
      rw [List.range_succ, List.map_append, List.map_cons, List.map_nil, if_pos rfl]
      congr 1
      refine List.map_congr_left fun j hj => ?_
      rw [if_neg (by have := List.mem_range.1 hj; omega)]
    rw [e]
    exact own_gr hown g3 fun b hb q => by rw [List.mem_singleton] at q; have := (World.ownsRow.lt hown b hb).1; omega
  · by_cases c : j = i
    · subst c
      rw [if_pos rfl]
      refine (hm.gr g2 fun q => ?_).gr g3 fun q => ?_
      · have := (hlr _ q).2; omega
      · rw [List.mem_singleton] at q; omega
    · rw [if_neg c]
      refine ((hd.mp j (by omega)).gr g2 (hd.far (by omega))).gr g3 fun q => ?_
      rw [List.mem_singleton] at q
      have := h.hi j (by omega)
      omega
  · by_cases c : j = i
    · rw [if_pos c]; omega
    · rw [if_neg c]; exact h.hi j (by omega)
  · by_cases c : j = i
    · by_cases d : k = i
      · omega
      · rw [if_pos c, if_neg d] at e
        have := hlt k (by omega)
        omega
    · by_cases d : k = i
      · rw [if_neg c, if_pos d] at e
        have := hlt j (by omega)
        omega
      · rw [if_neg c, if_neg d] at e
        exact h.ne j k (by omega) (by omega) e
theorem CpI.at' (h : CpI w wr cb v cv i nb mb F N) {g cap : Nat} (hv : v = .slice (some ⟨g, 0, none⟩) i cap) {j : Nat} (hj : j < i) : wr.cell? ⟨g, j, none⟩ = some (.map (some (mb j))) := by
  subst hv
  have c := World.ownsRow.cellAt h.own j (by omega)
  rw [c, List.getElem?_map, List.getElem?_range hj]
  rfl
end
theorem oneM (m : Nat) : ∀ u ∈ [Value.map (some m)], u.oneCell' = true := by simp [Value.oneCell']
set_option maxHeartbeats 8000000 in
set_option maxRecDepth 100000 in
theorem dcopy_any {w : World} {A : DiA} {F : ByteArray → Option Nat} {N : List ByteArray} (h : DiIs w A F N) : Calls Tryz.prog 160 #[.pointer (some ⟨A.db, 0, none⟩)] w fun e w' => ∃ A' : DiA, e = .returned (.pointer (some ⟨A'.db, 0, none⟩)) ∧ A'.nb = A.nb ∧ DiIs w' A' F N ∧ (∀ x ∈ A'.all, w.heap.size ≤ x) ∧ Gr [] w w' := by
  obtain ⟨i0, hi, hz0, hz1, hz2⟩ := info_parts infoM17
  have HIN := Lib.hid (And.intro hi (And.intro hz0 (And.intro hz1 hz2)))
  have HH := Lib.hid h
  have c0 := h.hd.cell 0
  have c1 := h.hd.cell 1
  obtain ⟨nb, hnb⟩ : ∃ nb, nb = A.nb := ⟨_, rfl⟩
  have HNB := Lib.hid hnb
  have HLE := Lib.hid (show 1 ≤ nb ∧ nb ≤ 65536 from by rw [hnb]; exact ⟨h.nb.1, h.nb.2.1⟩)
  rw [← hnb] at c0
  have H1 := Lib.hid (show CpI w (w.alloc (Obj.cells #[.slice none 0 0, .int .i64 (N.length : Int)] 210)) w.heap.size (.slice none 0 0) (.int .i64 (N.length : Int)) 0 nb (fun _ => 0) F N from ⟨(Gr.refl [] w).alloc _, Holds.new w _ _, World.ownsRow_nil _ _ _ _, fun j hj => by omega, fun j hj => by omega, fun j k hj => by omega, Nat.le_refl _⟩)
  have hdb := h.hd.lt
  clear h hnb hi hz0 hz1 hz2
  go_enter Tryz.func160, Tryz.ntmps160
  go_upto_region 5 with fail
  generalize (w.alloc (Obj.cells #[.slice none 0 0, .int .i64 (N.length : Int)] 210)) = w1 at *
  obtain ⟨cb, hcb⟩ : ∃ x, w.heap.size = x := ⟨_, rfl⟩
  rw [hcb] at H1 hdb ⊢
  have HCB := Lib.hid hcb
  clear hcb c0 c1 hdb
  go_loopw [19] (fun z wr => ∃ (i : Nat) (v : Value) (mb : Nat → Nat), i ≤ nb ∧ z = .int .i64 (i : Int) ∧ CpI w wr cb v (.int .i64 (N.length : Int)) i nb mb F N) (fun z _ => nb - (intOf z).toNat)
  case atStart => exact ⟨0, _, _, by omega, rfl, H1.out⟩
  case round =>
    clear H1
    obtain ⟨i, v, mb, hi, rfl, Q⟩ := hrel
    have HQ := Lib.hid Q
    clear Q
    have hnb := HLE.out
    by_cases hlt : i < nb
    · as_aux_lemma =>
        have H2 := HH.out.gr0 HQ.out.gr
        have ck := H2.bk.at' i (by rw [← HNB.out]; exact hlt)
        have HC := Lib.hid (fun W (g : Gr [] wr W) => clone_any (A.mb i) (cntB nb i N) (atB nb i F) W (by have r := (H2.gr0 g).bk.mp i (by rw [← HNB.out]; exact hlt); rw [← HNB.out] at r; exact r))
        have b1 : (i : Int) < (nb : Int) := by omega
        have b2 : (0 : Int) ≤ (i : Int) := by omega
        have HLT := Lib.hid hlt
        clear H2
        go_upto_region 7 with fail
        obtain ⟨ao, cap, hv⟩ := own_shp HQ.out.own
        subst hv
        have s0 : wr.cell? ⟨cb, 0, none⟩ = some (.slice ao i cap) := HQ.out.hd.cell 0
        have s0d : wr.drew.cell? ⟨cb, 0, none⟩ = some (.slice ao i cap) := HQ.out.hd.cell 0
        go_region_law ((first
          | (go_simp; go_at_call 188; (with_reducible refine Calls.mono (HC.out _ (by repeat (first | exact Gr.refl _ _ | refine Gr.drew ?_ | refine Gr.alloc ?_ _))) ?_); rintro rr w5 ⟨m5, rfl, hm5, hp5, g5⟩; have g5' : Gr [] wr w5 := (by refine Gr.trans ?_ g5; (repeat (first | exact Gr.refl _ _ | refine Gr.drew ?_))); have hm5' : wr.heap.size ≤ m5 := hm5; have H5 := Lib.hid (And.intro hp5 (And.intro hm5' g5')); have s5 : w5.cell? ⟨cb, 0, none⟩ = some (.slice ao i cap) := (HQ.out.gr0 g5').hd.cell 0; have s5a : (w5.alloc (Obj.cells #[.map (some m5)] 219)).cell? ⟨cb, 0, none⟩ = some (.slice ao i cap) := ((HQ.out.gr0 g5').hd.gr0 ((Gr.refl [] w5).alloc _)).cell 0; clear g5 g5' hm5 hm5' hp5)
          | (have gA := H5.out.2.2.alloc (Obj.cells #[.map (some m5)] 219); have hT3 := (HQ.out.gr0 gA).own; have hn3 := World.news_of_block (Go.Proofs.YtgleopahldpajaaGreat.Holds.new w5 #[.map (some m5)] 219); have hbs : cb + 1 ≤ (w5.alloc (Obj.cells #[.map (some m5)] 219)).heap.size := (by have := (HQ.out.gr0 gA).hd.lt; omega); refine step_append_lies _ rfl _ _ 208 rfl (cb + 1) 219 i0 _ 1 8 Tryz.underlying208 HIN.out.1 HIN.out.2.1 HIN.out.2.2.1 HIN.out.2.2.2 rfl (by decide) (.slice ao i cap) i _ rfl hT3 ⟨w5.heap.size, 0, none⟩ 1 1 [.map (some m5)] rfl rfl hn3 (oneM m5) Nat.one_pos (by unfold maxLen; omega) (by omega) hbs _ rfl ?_; intro g6 cp6 w7 hown6 hgrow6 hat6 hlt6; have HR7 := Lib.hid (HQ.out.snoc gA (H5.out.1.gr ((Gr.refl [] w5).alloc _) (by simp)) H5.out.2.1 hgrow6 hown6); have h7 := HQ.out.held gA hgrow6; have o7 := h7.cell 0; have f7 := h7.frozen 0; clear hown6 hgrow6 hat6 hlt6 h7 hT3 hn3 hbs gA)))
        all_goals
          go_wp2_with fail
          go_roundw
          case rel => exact ⟨i + 1, _, _, HLT.out, by go_num, HR7.out⟩
          case measure => simp [intOf]; omega
    · obtain rfl : i = nb := by omega
      obtain ⟨g, cap, hv, hg1⟩ : ∃ g cap, v = .slice (some ⟨g, 0, none⟩) i cap ∧ cb + 1 ≤ g := by
        rcases HQ.out.own.2 with ⟨_, h0⟩ | ⟨g, cap, cur, hv, hb, _⟩
        · omega
        · exact ⟨g, cap, hv, hb⟩
      have HG := Lib.hid (show DiIs wr ⟨cb, g, i, cap, mb⟩ F N ∧ ∀ x ∈ (DiA.mk cb g i cap mb).all, w.heap.size ≤ x from by
        have hq := HQ.out
        have hH := HH.out
        have hN := HNB.out
        have hC := HCB.out
        have hgl : g < wr.heap.size := (World.ownsRow.lt hq.own g (by rw [hv]; rfl)).2
        have hbk : BkD wr g i mb F N := ⟨hgl, fun j hj => hq.at' hv hj, hq.mp, hq.ne, fun j hj e => hq.far hj (by rw [hv, e]; simp [Value.ownBlock])⟩
        refine ⟨⟨by rw [← hv]; exact hq.hd, hbk, hH.ok, ⟨by show cb ≠ g; omega, fun j hj => by have := hq.hi j hj; show mb j ≠ cb; omega⟩, by rw [hN]; exact hH.nb⟩, fun x hx => ?_⟩
        rcases List.mem_cons.1 hx with rfl | hx
        · exact hq.lo
        · rcases List.mem_cons.1 hx with hx | hx
          · rw [hx]; show w.heap.size ≤ g; omega
          · obtain ⟨j, hj, rfl⟩ := List.mem_map.1 hx
            have := hq.hi j (List.mem_range.1 hj)
            show _ ≤ mb j
            omega)
      have HGr := Lib.hid HQ.out.gr
      clear hlt hi hnb hv hg1 HQ
      go_wp2_with fail
      refine bodyPost_ret (v := .pointer (some ⟨cb, 0, none⟩)) (by simp [results, Tryz.results160, go_sem, *]) rfl ⟨_, ?_, ?_, HG.out.1, HG.out.2, HGr.out⟩
      · rfl
      · exact HNB.out
end Go.Proofs.YtgleopahldpajaaGreat

/-
  Layer 17 (dir): nil directories; the encoding of an entry, by the program and by the document; Parse.
-/
namespace Go.Proofs.YtgleopahldpajaaGreat
open Go.RowKit
set_option linter.unusedVariables false

section
variable {w : World}
set_option maxRecDepth 100000 in
theorem bucket_nil (s : ByteArray) (w : World) : Calls Tryz.prog 117 #[.pointer none, .string s] w fun e w' => e = .returned (.map none) ∧ w' = w := by
  go_enter Tryz.func117, Tryz.ntmps117
  go_wp2_with fail
  go_ret
  exact ⟨rfl, rfl⟩
set_option maxRecDepth 100000 in
theorem dget_nil (s : ByteArray) (hs : s.size ≤ maxLen) (w : World) : Calls Tryz.prog 53 #[.pointer none, .string s] w fun e w' => e = .returned (.tuple #[.int .i64 0, .bool false]) ∧ w' = w := by
  have hl := Maps.look_nil (w := w) (t := 219) true (Maps.string_keyed Tryz.underlying9) Tryz.underlying219 (niE.zero_run w) (tkey Tryz.underlying9 hs)
  go_enter Tryz.func53, Tryz.ntmps53
  go_wp2_with fail
  refine (bucket_nil s _).mono ?_
  rintro e w2 ⟨rfl, rfl⟩
  go_wp2_with fail
  go_ret2
  exact ⟨rfl, rfl⟩
set_option maxRecDepth 100000 in
theorem dlist_nil (w : World) : Calls Tryz.prog 86 #[.pointer none] w fun e w' => e = .returned (.slice none 0 0) ∧ w' = w := by
  go_enter Tryz.func86, Tryz.ntmps86
  go_wp2_with fail
  go_ret
  exact ⟨rfl, rfl⟩
end
end Go.Proofs.YtgleopahldpajaaGreat

/-
  Layer 19 (tree): a tree in memory; what is there: node, dir, usable, Len.
-/
namespace Go.Proofs.YtgleopahldpajaaGreat
open Go.RowKit
set_option linter.unusedVariables false

/-- The blocks of a tree: itself, its three maps. -/
structure TrA where
  tb : Nat
  nb : Nat
  ib : Nat
  sb : Nat
def TrA.own (A : TrA) : List Nat := [A.nb, A.ib, A.sb]
/-- An inode of the map is that of the tree. -/
structure NdIs (w : World) (B : List Nat) (nm : List NmZ) (K : Nat) (n : Int) (v : NdV) (x : NdZ) : Prop where
  k : v.k = (x.k : Int)
  l : v.l = (x.l : Int)
  s : v.s = x.s
  t : v.t = x.t
  op : v.op = (x.pin : Int)
  b : Sl2 w (.slice v.ao v.n v.cap) x.b
  bb : ∀ b, (Value.slice v.ao v.n v.cap).ownBlock = some b → b ∉ B
  up : x.k = 2 → v.up = x.up
  dir : x.k = 2 → ∃ D : DiA, v.dp = some ⟨D.db, 0, none⟩ ∧ DiIs w D (lkN nm n) (nmsOf nm n) ∧ D.nb ≤ 4 + K ∧ ∀ b ∈ D.all, b ∉ B
  nod : x.k ≠ 2 → v.dp = none
/-- What the map of inodes has. -/
def gT (g : Int → NdV) (T : Int → Option NdZ) : Int → Option NdV := fun z => (T z).map fun _ => g z
/-- A tree in memory. -/
structure TrG (w : World) (A : TrA) (Z : TrZ) (K : Nat) (g : Int → NdV) : Prop where
  hd : Holds w A.tb #[.map (some A.nb), .map (some A.ib), .map (some A.sb)] 130
  nodes : MapZ ndE 3 w A.nb K (gT g Z.T)
  nd : ∀ n x, Z.T n = some x → NdIs w A.own Z.nm K n (g n) x
  inodes : MapZ setE 3 w A.ib K fun z => if Z.sn z then some () else none
  spots : MapS w A.sb K Z.sp
  ne : A.nb ≠ A.ib ∧ A.nb ≠ A.sb ∧ A.ib ≠ A.sb
  tn : A.tb ∉ A.own
  len : Z.nm.length ≤ K
section
variable {w w' : World} {A : TrA} {Z : TrZ} {K : Nat} {g : Int → NdV} {B : List Nat} {nm : List NmZ} {n : Int} {v : NdV} {x : NdZ}
theorem NdIs.gr {bs : List Nat} (h : NdIs w B nm K n v x) (q : Gr bs w w') (hb : ∀ b ∈ bs, b ∈ B) : NdIs w' B nm K n v x := by
  refine ⟨h.k, h.l, h.s, h.t, h.op, h.b.gr q fun b e m => h.bb b e (hb b m), h.bb, h.up, fun c => ?_, h.nod⟩
  obtain ⟨D, h1, h2, h3, h4⟩ := h.dir c
  exact ⟨D, h1, h2.gr q fun b m e => h4 b m (hb b e), h3, h4⟩
theorem NdIs.mono {L : Nat} (h : NdIs w B nm K n v x) (hL : K ≤ L) : NdIs w B nm L n v x := by
  refine ⟨h.k, h.l, h.s, h.t, h.op, h.b, h.bb, h.up, fun c => ?_, h.nod⟩
  obtain ⟨D, h1, h2, h3, h4⟩ := h.dir c
  exact ⟨D, h1, h2, by omega, h4⟩
theorem TrG.gr0 (h : TrG w A Z K g) (q : Gr [] w w') : TrG w' A Z K g :=
  ⟨h.hd.gr0 q, h.nodes.gr0 q, fun n x hx => (h.nd n x hx).gr q (by simp), h.inodes.gr0 q, h.spots.gr0 q, h.ne, h.tn, h.len⟩
theorem TrG.mono {L : Nat} (h : TrG w A Z K g) (hL : K ≤ L) : TrG w A Z L g :=
  ⟨h.hd, h.nodes.mono hL, fun n x hx => (h.nd n x hx).mono hL, h.inodes.mono hL, h.spots.mono hL, h.ne, h.tn, by have := h.len; omega⟩
theorem TrG.lt (h : TrG w A Z K g) : A.tb < w.heap.size ∧ A.nb < w.heap.size ∧ A.ib < w.heap.size ∧ A.sb < w.heap.size := ⟨h.hd.lt, h.nodes.lt, h.inodes.lt, h.spots.lt⟩
end
/-- Is there an inode; a Dir; a usable one? -/
def getE (T : Int → Option NdZ) (n : Int) : Int := if (T n).isSome then 0 else 13
def dirE (T : Int → Option NdZ) (n : Int) : Int := match T n with | none => 13 | some x => if x.k = 2 then 0 else 16
def openE (T : Int → Option NdZ) (n : Int) : Int := match T n with | none => 13 | some x => if x.k = 2 then (if x.l = 0 then 13 else 0) else 16
theorem undInt19 : Tryz.prog.underlying 3 = some (.int .i64) := Tryz.underlying3
theorem undNodes : Tryz.prog.underlying 126 = some (.map 3 125) := Tryz.underlying126
theorem undInodes : Tryz.prog.underlying 127 = some (.map 3 139) := Tryz.underlying127
section
variable {w w' : World} {A : TrA} {Z : TrZ} {K : Nat} {g : Int → NdV} {n : Int} {x : NdZ}
theorem gT_some {T : Int → Option NdZ} (hx : T n = some x) : gT g T n = some (g n) := by unfold gT; rw [hx]; rfl
theorem gT_none {T : Int → Option NdZ} (hx : T n = none) : gT g T n = none := by unfold gT; rw [hx]; rfl
end
theorem gr8 {w0 w : World} {b : Nat} {bs : List Nat} (h0 : Gr bs w0 w) (hb : b ∈ bs ∨ w0.heap.size ≤ b) (c0 c1 c2 c3 c4 c5 c6 c7 : Value) :
    Gr bs w0 ((((((((w.setCell ⟨b, 0, none⟩ c0).setCell ⟨b, 1, none⟩ c1).setCell ⟨b, 2, none⟩ c2).setCell ⟨b, 3, none⟩ c3).setCell ⟨b, 4, none⟩ c4).setCell ⟨b, 5, none⟩ c5).setCell ⟨b, 6, none⟩ c6).setCell ⟨b, 7, none⟩ c7) := by
  have h1 := h0.setCell (p := ⟨b, 0, none⟩) hb c0
  have h2 := h1.setCell (p := ⟨b, 1, none⟩) hb c1
  have h3 := h2.setCell (p := ⟨b, 2, none⟩) hb c2
  have h4 := h3.setCell (p := ⟨b, 3, none⟩) hb c3
  have h5 := h4.setCell (p := ⟨b, 4, none⟩) hb c4
  have h6 := h5.setCell (p := ⟨b, 5, none⟩) hb c5
  have h7 := h6.setCell (p := ⟨b, 6, none⟩) hb c6
  have h8 := h7.setCell (p := ⟨b, 7, none⟩) hb c7
  exact h8
section
variable {w w' : World} {A : TrA} {Z : TrZ} {K : Nat} {g : Int → NdV} {n : Int} {x : NdZ}
/-- What node returns beside its errno. -/
def pickV (g : Int → NdV) (e : Int) (n : Int) : NdV := if e = 0 then g n else ndZero
theorem pickV_ok {e : Int} (h : e = 0) : pickV g e n = g n := if_pos h
theorem pickV_no {e : Int} (h : e ≠ 0) : pickV g e n = ndZero := if_neg h
set_option maxRecDepth 20000 in
theorem node_nil (n : Int) (w : World) : Calls Tryz.prog 82 #[.pointer none, .int .i64 n] w fun e w' => e = .returned (.tuple #[ndVal ndZero, .int .i64 1]) ∧ Gr [] w w' := by
  have HG := Lib.hid (((Gr.refl [] w).alloc (Obj.cells #[.int .u8 0, .int .i64 0, .int .i64 0, .slice none 0 0, .string ⟨#[]⟩, .pointer none, .int .i64 0, .int .i64 0] 125)))
  go_enter Tryz.func82, Tryz.ntmps82
  go_wp2_with fail
  exact bodyPost_ret (v := .tuple #[.agg #[.int .u8 0, .int .i64 0, .int .i64 0, .slice none 0 0, .string ⟨#[]⟩, .pointer none, .int .i64 0, .int .i64 0], .int .i64 1]) (by simp [results, Tryz.results82, go_sem, *]) rfl ⟨rfl, HG.out⟩
set_option maxRecDepth 20000 in
set_option maxHeartbeats 1000000 in
theorem node_any (h : TrG w A Z K g) (n : Int) (hn : WfZ n) : Calls Tryz.prog 82 #[.pointer (some ⟨A.tb, 0, none⟩), .int .i64 n] w fun e w' => e = .returned (.tuple #[ndVal (pickV g (getE Z.T n) n), .int .i64 (getE Z.T n)]) ∧ Gr [] w w' := by
  have HG := Lib.hid (((Gr.refl [] w).alloc (Obj.cells #[.int .u8 0, .int .i64 0, .int .i64 0, .slice none 0 0, .string ⟨#[]⟩, .pointer none, .int .i64 0, .int .i64 0] 125)).alloc (Obj.cells #[.int .u8 0, .int .i64 0, .int .i64 0, .slice none 0 0, .string ⟨#[]⟩, .pointer none, .int .i64 0, .int .i64 0] 125))
  have HG1 := Lib.hid ((Gr.refl [] w).alloc (Obj.cells #[.int .u8 0, .int .i64 0, .int .i64 0, .slice none 0 0, .string ⟨#[]⟩, .pointer none, .int .i64 0, .int .i64 0] 125))
  have hm := h.nodes.gr0 HG1.out
  have HM := Lib.hid hm
  have HW := Lib.hid hn
  have c0 := (h.hd.gr0 HG1.out).cell 0
  have hz : (Z.T n).isSome = (gT g Z.T n).isSome := by unfold gT; simp
  cases q : Z.T n with
  | some x =>
    have hq : getE Z.T n = 0 := by unfold getE; rw [q]; rfl
    obtain ⟨v, hv⟩ : ∃ v, v = g n := ⟨_, rfl⟩
    have HV := Lib.hid (show Value.tuple #[ndE.val ((gT g Z.T n).getD ndE.zero), .bool (gT g Z.T n).isSome] = .tuple #[.agg #[.int .u8 v.k, .int .i64 v.l, .int .i64 v.s, .slice v.ao v.n v.cap, .string v.t, .pointer v.dp, .int .i64 v.up, .int .i64 v.op], .bool true] by rw [gT_some q, hv]; rfl)
    rw [hq, pickV_ok rfl, ← hv]
    clear hv hq q hz hm h hn HG1
    go_enter Tryz.func82, Tryz.ntmps82
    go_wp2_with (at_lookup; refine wp_lookZ_oks rfl _ _ rfl rfl HM.out undInt19 undNodes n rfl HW.out _ HV.out ?_)
    exact bodyPost_ret (v := .tuple #[.agg #[.int .u8 v.k, .int .i64 v.l, .int .i64 v.s, .slice v.ao v.n v.cap, .string v.t, .pointer v.dp, .int .i64 v.up, .int .i64 v.op], .int .i64 0]) (by simp [results, Tryz.results82, go_sem, *]) rfl ⟨rfl, ((Gr.refl [] w).alloc _).alloc _⟩
  | none =>
    have hq : getE Z.T n = 13 := by unfold getE; rw [q]; rfl
    have HV := Lib.hid (show Value.tuple #[ndE.val ((gT g Z.T n).getD ndE.zero), .bool (gT g Z.T n).isSome] = .tuple #[.agg #[.int .u8 0, .int .i64 0, .int .i64 0, .slice none 0 0, .string ⟨#[]⟩, .pointer none, .int .i64 0, .int .i64 0], .bool false] by rw [gT_none q]; rfl)
    rw [hq, pickV_no (by decide)]
    clear hq q hz hm h hn HG1
    go_enter Tryz.func82, Tryz.ntmps82
    go_wp2_with (at_lookup; refine wp_lookZ_oks rfl _ _ rfl rfl HM.out undInt19 undNodes n rfl HW.out _ HV.out ?_)
    exact bodyPost_ret (v := .tuple #[.agg #[.int .u8 0, .int .i64 0, .int .i64 0, .slice none 0 0, .string ⟨#[]⟩, .pointer none, .int .i64 0, .int .i64 0], .int .i64 13]) (by simp [results, Tryz.results82, go_sem, *]) rfl ⟨rfl, ((Gr.refl [] w).alloc _).alloc _⟩
theorem pickV_kind (h : TrG w A Z K g) {x : NdZ} (hx : Z.T n = some x) : (g n).k = (x.k : Int) ∧ (g n).l = (x.l : Int) := ⟨(h.nd n x hx).k, (h.nd n x hx).l⟩
set_option maxRecDepth 20000 in
set_option maxHeartbeats 1000000 in
theorem dir_any (h : TrG w A Z K g) (n : Int) (hn : WfZ n) : Calls Tryz.prog 85 #[.pointer (some ⟨A.tb, 0, none⟩), .int .i64 n] w fun e w' => e = .returned (.tuple #[ndVal (pickV g (dirE Z.T n) n), .int .i64 (dirE Z.T n)]) ∧ Gr [] w w' := by
  have g1 := (Gr.refl [] w).alloc (Obj.cells #[.int .u8 0, .int .i64 0, .int .i64 0, .slice none 0 0, .string ⟨#[]⟩, .pointer none, .int .i64 0, .int .i64 0] 125)
  have HB := Lib.hid (Holds.new w #[.int .u8 0, .int .i64 0, .int .i64 0, .slice none 0 0, .string ⟨#[]⟩, .pointer none, .int .i64 0, .int .i64 0] 125)
  have HN := Lib.hid (node_any (h.gr0 g1) n hn)
  have HG := Lib.hid g1
  cases q : Z.T n with
  | none =>
    have q1 : getE Z.T n = 13 := by unfold getE; rw [q]; rfl
    have q2 : dirE Z.T n = 13 := by unfold dirE; rw [q]
    rw [q1, pickV_no (by decide)] at HN
    rw [q2, pickV_no (by decide)]
    clear q1 q2 q h hn g1
    go_enter Tryz.func85, Tryz.ntmps85
    go_wp2_with fail
    with_reducible refine HN.out.mono ?_
    rintro e w1 ⟨rfl, g2⟩
    have HG2 := Lib.hid (HG.out.next0 g2)
    have HR := Lib.hid ((HB.out.gr0 g2).alloc (Obj.cells #[.int .u8 0, .int .i64 0, .int .i64 0, .slice none 0 0, .string ⟨#[]⟩, .pointer none, .int .i64 0, .int .i64 0] 125))
    have c0 := HR.out.cell 0
    have f0 := HR.out.frozen 0
    have c1 := HR.out.cell 1
    have f1 := HR.out.frozen 1
    have c2 := HR.out.cell 2
    have f2 := HR.out.frozen 2
    have c3 := HR.out.cell 3
    have f3 := HR.out.frozen 3
    have c4 := HR.out.cell 4
    have f4 := HR.out.frozen 4
    have c5 := HR.out.cell 5
    have f5 := HR.out.frozen 5
    have c6 := HR.out.cell 6
    have f6 := HR.out.frozen 6
    have c7 := HR.out.cell 7
    have f7 := HR.out.frozen 7
    have l1 := g2.size
    rw [World.size_alloc] at l1
    unfold ndVal ndZero
    clear g2 HN HG
    go_wp2_with fail
    exact bodyPost_ret (v := .tuple #[.agg #[.int .u8 0, .int .i64 0, .int .i64 0, .slice none 0 0, .string ⟨#[]⟩, .pointer none, .int .i64 0, .int .i64 0], .int .i64 13]) (by simp [results, Tryz.results85, go_sem, *]) rfl ⟨rfl, gr8 (HG2.out.alloc _) (.inr (Nat.le_refl _)) _ _ _ _ _ _ _ _⟩
  | some x =>
    have q1 : getE Z.T n = 0 := by unfold getE; rw [q]; rfl
    obtain ⟨k1, _⟩ := pickV_kind h q
    rw [q1, pickV_ok rfl] at HN
    obtain ⟨v, hv⟩ : ∃ v, v = g n := ⟨_, rfl⟩
    rw [← hv] at HN k1
    by_cases c : x.k = 2
    · have q2 : dirE Z.T n = 0 := by unfold dirE; rw [q]; exact if_pos c
      rw [q2, pickV_ok rfl, ← hv]
      have hv2 : ndVal v = .agg #[.int .u8 2, .int .i64 v.l, .int .i64 v.s, .slice v.ao v.n v.cap, .string v.t, .pointer v.dp, .int .i64 v.up, .int .i64 v.op] := by unfold ndVal; rw [k1, c]; rfl
      rw [hv2] at HN ⊢
      clear q1 q2 q h hn g1 k1 hv hv2
      go_enter Tryz.func85, Tryz.ntmps85
      go_wp2_with fail
      with_reducible refine HN.out.mono ?_
      rintro e w1 ⟨rfl, g2⟩
      have HG2 := Lib.hid (HG.out.next0 g2)
      have HR := Lib.hid ((HB.out.gr0 g2).alloc (Obj.cells #[.int .u8 2, .int .i64 v.l, .int .i64 v.s, .slice v.ao v.n v.cap, .string v.t, .pointer v.dp, .int .i64 v.up, .int .i64 v.op] 125))
      have c0 := HR.out.cell 0
      have f0 := HR.out.frozen 0
      have c1 := HR.out.cell 1
      have f1 := HR.out.frozen 1
      have c2 := HR.out.cell 2
      have f2 := HR.out.frozen 2
      have c3 := HR.out.cell 3
      have f3 := HR.out.frozen 3
      have c4 := HR.out.cell 4
      have f4 := HR.out.frozen 4
      have c5 := HR.out.cell 5
      have f5 := HR.out.frozen 5
      have c6 := HR.out.cell 6
      have f6 := HR.out.frozen 6
      have c7 := HR.out.cell 7
      have f7 := HR.out.frozen 7
      have l1 := g2.size
      rw [World.size_alloc] at l1
      clear g2 HN HG
      go_wp2_with fail
      exact bodyPost_ret (v := .tuple #[.agg #[.int .u8 2, .int .i64 v.l, .int .i64 v.s, .slice v.ao v.n v.cap, .string v.t, .pointer v.dp, .int .i64 v.up, .int .i64 v.op], .int .i64 0]) (by simp [results, Tryz.results85, go_sem, *]) rfl ⟨rfl, gr8 (HG2.out.alloc _) (.inr (Nat.le_refl _)) _ _ _ _ _ _ _ _⟩
    · have q2 : dirE Z.T n = 16 := by unfold dirE; rw [q]; exact if_neg c
      rw [q2, pickV_no (by decide)]
      have k2 : ¬ v.k = 2 := by omega
      have k3 : (v.k == 2) = false := by simp [k2]
      have k4 : (v.k != 2) = true := by simp [k2]
      clear q1 q2 q h hn g1 k1 hv
      go_enter Tryz.func85, Tryz.ntmps85
      go_wp2_with fail
      with_reducible refine HN.out.mono ?_
      rintro e w1 ⟨rfl, g2⟩
      have HG2 := Lib.hid (HG.out.next0 g2)
      have HR := Lib.hid ((HB.out.gr0 g2).alloc (Obj.cells #[.int .u8 v.k, .int .i64 v.l, .int .i64 v.s, .slice v.ao v.n v.cap, .string v.t, .pointer v.dp, .int .i64 v.up, .int .i64 v.op] 125))
      have c0 := HR.out.cell 0
      have f0 := HR.out.frozen 0
      have c1 := HR.out.cell 1
      have f1 := HR.out.frozen 1
      have c2 := HR.out.cell 2
      have f2 := HR.out.frozen 2
      have c3 := HR.out.cell 3
      have f3 := HR.out.frozen 3
      have c4 := HR.out.cell 4
      have f4 := HR.out.frozen 4
      have c5 := HR.out.cell 5
      have f5 := HR.out.frozen 5
      have c6 := HR.out.cell 6
      have f6 := HR.out.frozen 6
      have c7 := HR.out.cell 7
      have f7 := HR.out.frozen 7
      have l1 := g2.size
      rw [World.size_alloc] at l1
      unfold ndVal
      clear g2 HN HG
      go_wp2_with fail
      exact bodyPost_ret (v := .tuple #[.agg #[.int .u8 0, .int .i64 0, .int .i64 0, .slice none 0 0, .string ⟨#[]⟩, .pointer none, .int .i64 0, .int .i64 0], .int .i64 16]) (by simp [results, Tryz.results85, go_sem, *]) rfl ⟨rfl, gr8 (HG2.out.alloc _) (.inr (Nat.le_refl _)) _ _ _ _ _ _ _ _⟩
end
end Go.Proofs.YtgleopahldpajaaGreat
