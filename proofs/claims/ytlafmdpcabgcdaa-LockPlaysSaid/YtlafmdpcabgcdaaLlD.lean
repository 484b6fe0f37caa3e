/-
  Layer 24: LockPlays.
-/
import Derived.Test.YtlafmdpcabgcdaaLlB
import Derived.Test.YtlafmdpcabgcdaaLlC
import Derived.Deep.DeepCutAuto
import Derived.Deep.CutBlock
namespace Go.Proofs.Ytlafmdpcabgcdaa
open Go.RowKit

/-- Both sides: the program's after k1 acts, the document's after k2. -/
structure PX (w wr : World) (a : LkA) (r : RlA) (n k1 : Nat) (S1 : LkS) (k2 : Nat) (S2 : LkS) : Prop where
  p : LR [] r.all n w wr a k1 S1
  x : RX wr r n k2 S2
  new : ∀ b ∈ r.all, w.heap.size ≤ b
  sep : ∀ b ∈ a.all, b ∉ r.all
def PL (w wr : World) (a : LkA) (r : RlA) (n k : Nat) (S : LkS) : Prop := PX w wr a r n k S k S
section
variable {w wr w' : World} {a : LkA} {r r' : RlA} {n k1 k2 j1 j2 : Nat} {S1 S2 T1 T2 : LkS}
theorem PX.gr0 (h : PX w wr a r n k1 S1 k2 S2) (g : Gr [] wr w') : PX w w' a r n k1 S1 k2 S2 := ⟨h.p.gr0 g, h.x.gr0 g, h.new, h.sep⟩
theorem PX.thenP (h : PX w wr a r n k1 S1 k2 S2) (hp : LR [] r.all n w w' a j1 T1) (g : Gr a.all wr w') : PX w w' a r n j1 T1 k2 S2 := ⟨hp, h.x.gr g (fun b hb q => h.sep b q hb), h.new, h.sep⟩
theorem PX.thenR (h : PX w wr a r n k1 S1 k2 S2) (hx : RX w' r' n j2 T2) (g : Gr r.all wr w') (hn : NwR wr r r') : PX w w' a r' n k1 S1 j2 T2 := by
  have hs := h.p.gr.size
  have hal : ∀ b ∈ a.all, b < wr.heap.size := by
    obtain ⟨vs, hi, _⟩ := h.p.is
    exact hi.lt
  refine ⟨h.p.other g h.sep (fun b hb => .inr (h.new b hb)) hn.1 hx.lt, hx, fun b hb => ?_, fun b hb q => ?_⟩
  · rcases hn.1 b hb with p | p
    · exact h.new b p
    · omega
  · rcases hn.1 b q with p | p
    · exact h.sep b hb p
    · have := hal b hb; omega
end
theorem SlZ.grB {w w' : World} {v : Value} {l : List Int} {bs : List Nat} (h : SlZ w v l) (g : Gr bs w w') (hn : l ≠ [] → ∀ k, v.ownBlock = some k → k ∉ bs) : SlZ w' v l := by
  obtain ⟨ao, cap, rfl, h2, h3⟩ := h
  refine ⟨ao, cap, rfl, fun i x hi => ?_, h3⟩
  obtain ⟨k, o, q1, q2, q3⟩ := h2 i x hi
  have hne : l ≠ [] := fun e => by rw [e] at hi; simp at hi
  exact ⟨k, o, q1, Nat.lt_of_lt_of_le q2 g.size, (World.cell?_of_block (w := w) (g.block k q2 (hn hne k (by rw [q1]; rfl)))).trans q3⟩
theorem raskB {n k B : Nat} {w : World} {r : RlA} {S : LkS} (hb : r.b = B) (h : RX w r n k S) (hk : k ≤ 100) (c : Int) {v : Value} {xs : List Int} (hz : SlZ w v xs) (hx6 : xs.length ≤ 6) (hva : xs ≠ [] → ∀ b, v.ownBlock = some b → b ∉ r.all) :
    Calls Try.prog 9 #[.pointer (some ⟨B, 0, none⟩), .int .i64 c, v] w fun e w' => ∃ r', e = .returned (.int .i64 (askE n S c xs)) ∧ RX w' r' n (k + 1) (askS n S c xs) ∧ Gr r.all w w' ∧ NwR w r r' := by
  subst hb; exact rask h hk c hz hx6 hva
theorem rstepB {n k B : Nat} {w : World} {r : RlA} {S : LkS} (hb : r.b = B) (h : RX w r n k S) (hk : k ≤ 100) (c : Int) :
    Calls Try.prog 13 #[.pointer (some ⟨B, 0, none⟩), .int .i64 c] w fun e w' => ∃ r', e = .returned (.tuple #[.bool (stepB n S c), .int .i64 (okE n c)]) ∧ RX w' r' n (k + 1) (stepS n S c) ∧ Gr r.all w w' ∧ NwR w r r' := by
  subst hb; exact rstep h hk c
theorem rdropB {n k B : Nat} {w : World} {r : RlA} {S : LkS} (hb : r.b = B) (h : RX w r n k S) (hk : k ≤ 100) (c : Int) :
    Calls Try.prog 11 #[.pointer (some ⟨B, 0, none⟩), .int .i64 c] w fun e w' => ∃ r', e = .returned (.int .i64 (okE n c)) ∧ RX w' r' n (k + 1) (dropS n S c) ∧ Gr r.all w w' ∧ NwR w r r' := by
  subst hb; exact rdrop h hk c
theorem rhadB {n k B : Nat} {w : World} {r : RlA} {S : LkS} (hb : r.b = B) (h : RX w r n k S) (hk : k ≤ 160) (c : Nat) : Calls Try.prog 16 #[.pointer (some ⟨B, 0, none⟩), .int .i64 c] w fun e w' => ∃ v l, e = .returned v ∧ SlZ w' v l ∧ Rise l ∧ (∀ z, z ∈ l ↔ S.H z = some c) ∧ Gr [] w w' := by
  subst hb; exact rhad h hk c
theorem rwaitsB {n k B c : Nat} {z : Int} {w : World} {r : RlA} {S : LkS} (hb : r.b = B) (h : RX w r n k S) (hk : k ≤ 160) (hc : c < n) (hz : waitZ S c = z) : Calls Try.prog 18 #[.pointer (some ⟨B, 0, none⟩), .int .i64 c] w fun e w' => e = .returned (.int .i64 z) ∧ Gr [] w w' := by
  subst hb hz; exact rwaits h hk hc
theorem phas {bs av : List Nat} {n m c : Nat} {w wr : World} {a : LkA} {S : LkS} (h : LR bs av n w wr a m S) (hc : c < n) (hm : m ≤ 100000) : Calls Try.prog 15 #[.pointer (some ⟨a.b, 0, none⟩), .int .i64 c] wr fun e w' => ∃ v l, e = .returned v ∧ SlZ w' v l ∧ Rise l ∧ (∀ z, z ∈ l ↔ S.H z = some c) ∧ Gr [] wr w' := by
  obtain ⟨vs, hi, hv⟩ := h.is
  exact (has_at a n m vs S c wr hi hc h.wf hm).mono fun e w' ⟨v, l, h1, h2, h3, h4, h5, _⟩ => ⟨v, l, h1, h4, h2, h3, h5⟩
open Classical in
noncomputable def actS (n : Nat) (S : LkS) (sw c : Int) (xs : List Int) : LkS := if sw = 0 then askS n S c xs else if sw = 4 then dropS n S c else stepS n S c
/-- What an act leaves. -/
def DoneL (w wx : World) (a : LkA) (n k B : Nat) (S : LkS) : Prop := ∃ r', PL w wx a r' n k S ∧ r'.b = B
set_option maxRecDepth 100000 in
set_option maxHeartbeats 16000000 in
theorem plays24 (K : Int) (v : Value) (R : List AL24) (w : World) (hR : ActsZ w v R) :
    Calls Try.prog 3 #[.int .i64 K, v] w fun e w' => e = .returned (.bool true) ∧ Gr [] w w' := by
  obtain ⟨ao, cap, rfl, hcap, hcap9, hnone, hat⟩ := hR
  unfold maxLen at hcap9
  obtain ⟨N, hN⟩ : ∃ N, N = R.length := ⟨_, rfl⟩
  rw [← hN] at hcap ⊢
  obtain ⟨N6, hN6⟩ : ∃ m, m = min N 80 := ⟨_, rfl⟩
  have hmn := minIs24 Try.prog N N6 80 80 rfl hN6
  have hN6a : N6 ≤ N := by omega
  have hN6b : N6 ≤ 80 := by omega
  have HN := Lib.hid hN
  have HAT := Lib.hid hat
  have hmx := max0 Try.prog
  have hn0 := mx_nonneg K
  obtain ⟨n, hn, hn1, hn5⟩ : ∃ n : Nat, 1 + mx K % 5 = (n : Int) ∧ 1 ≤ n ∧ n ≤ 5 := ⟨(1 + mx K % 5).toNat, by omega, by omega, by omega⟩
  clear hN hat hN6
  go_enter Try.func3, Try.ntmps3
  go_wp2_with fail
  go_at_call 6
  refine (new_ok n w hn1 (by omega)).mono ?_
  rintro e w1 ⟨a, rfl, h1, g1, hb1⟩
  have H1 := Lib.hid (show LR [] [] n w w1 a 0 noneS from ⟨⟨_, h1, fun d k hk => by cases hk⟩, (fun b hb => by cases hb), wkn_wf _ (fun _ => rfl), g1, fun b hb => .inr (hb1 b hb)⟩)
  have HA1 := Lib.hid h1.lt
  clear h1 g1 hb1
  go_wp2_with fail
  have HB := Lib.hid (Holds.new w1 #[.int .i64 (n : Int), .slice none 0 0, .slice none 0 0] 30)
  have HP := Lib.hid (show PL w (w1.alloc (.cells #[.int .i64 (n : Int), .slice none 0 0, .slice none 0 0] 30)) a ⟨w1.heap.size, .slice none 0 0, .slice none 0 0⟩ n 0 noneS from by
    have hz : (w1.alloc (.cells #[.int .i64 (n : Int), .slice none 0 0, .slice none 0 0] 30)).heap.size = w1.heap.size + 1 := World.size_alloc _ _
    have hall : ∀ b ∈ (⟨w1.heap.size, .slice none 0 0, .slice none 0 0⟩ : RlA).all, b = w1.heap.size := fun b hb => by simpa [RlA.all, Value.ownBlock] using hb
    refine ⟨H1.out.other ((Gr.refl [] w1).alloc _) (by simp) (by simp) (fun b hb => .inr (by rw [hall b hb]; exact Nat.le_refl _)) (fun b hb => by rw [hall b hb]; omega), ⟨[], [], ⟨HB.out, World.ownsRow_nil _ _ _ _, World.ownsRow_nil _ _ _ _, fun k hk => by cases hk⟩, LkRel.start n, by simp, by simp⟩, fun b hb => by rw [hall b hb]; exact H1.out.gr.size, fun b hb q => ?_⟩
    have := HA1.out b hb
    rw [hall b q] at this
    omega)
  clear H1 HB HA1 hmx hn0 hn
  generalize w1.heap.size = B at *
  generalize w1.alloc (.cells #[.int .i64 (n : Int), .slice none 0 0, .slice none 0 0] 30) = w2 at *
  go_at_call 7
  refine (wakes24 _).mono ?_
  rintro e w3 ⟨rfl, g3⟩
  have HP3 := Lib.hid (HP.out.gr0 g3)
  clear g3 HP
  go_wp2_with fail
  clear hmn
  go_loopw [45] (fun i wr => ∃ (k : Nat) (S : LkS) (r : RlA), k ≤ N6 ∧ i = .int .i64 k ∧ PL w wr a r n k S ∧ r.b = B) (fun i _ => N6 - (intOf i).toNat)
  case atStart => exact ⟨0, noneS, _, by omega, rfl, HP3.out, rfl⟩
  case round =>
    clear HP3
    obtain ⟨k, S, r, hk, rfl, hP, hb⟩ := hrel
    have HP := Lib.hid hP
    have HBB := Lib.hid hb
    clear hP hb
    by_cases hlt : k < N6
    · have ik : (k : Int) < (N6 : Int) := by omega
      obtain ⟨e, he⟩ : ∃ e, R[k]? = some e := ⟨_, List.getElem?_eq_getElem (by have := HN.out; omega)⟩
      obtain ⟨b1, o1, hao, hb1, z0, z1, z2, hz, hwz⟩ := HAT.out k e he
      subst hao
      have c0 := (HP.out.p.gr.cell0 hb1).trans z0
      have c1 := (HP.out.p.gr.cell0 hb1).trans z1
      have c2 := (HP.out.p.gr.cell0 hb1).trans z2
      have hzr := hz.gr0 HP.out.p.gr
      obtain ⟨ed, ec, ev, exs⟩ := e
      simp only at c0 c1 c2 hz hwz hzr
      obtain ⟨aoe, cape, rfl, hrd, hc1, hc2, hc3⟩ := id hzr
      unfold maxLen at hc2
      obtain ⟨L, hL⟩ : ∃ L, L = exs.length := ⟨_, rfl⟩
      rw [← hL] at c2 hc1 hzr
      obtain ⟨L5, hL5⟩ : ∃ m, m = min L 6 := ⟨_, rfl⟩
      have hmn := minIs24 Try.prog L L5 6 6 rfl hL5
      have hL5a : L5 ≤ L := by omega
      have HZ := Lib.hid (hzr.take L5 hL5a)
      have HX5 := Lib.hid (show (exs.take L5).length ≤ 6 by rw [List.length_take]; omega)
      have HWX := Lib.hid (show ∀ x ∈ exs.take L5, WfZ x from fun x hx => hwz x (List.mem_of_mem_take hx))
      have HVA := Lib.hid (show exs.take L5 ≠ [] → ∀ b, (Value.slice aoe L5 cape).ownBlock = some b → b < w.heap.size from fun hne b hb => by
        cases hx : exs.take L5 with
        | nil => exact absurd hx hne
        | cons x l =>
          have h0 : exs[0]? = some x := by
            have := congrArg (fun q => q[0]?) hx
            simp only [List.getElem?_cons_zero] at this
            rw [List.getElem?_take] at this
            split at this
            · exact this
            · cases this
          obtain ⟨ao', cap', q1, q2, _⟩ := hz
          injection q1 with q1
          obtain ⟨b', o', p1, p2, _⟩ := q2 0 x h0
          rw [q1, p1] at hb
          injection hb with hb
          rw [← hb]; exact p2)
      clear he hb1 z0 z1 z2 hz hwz hzr hrd hL hL5
      have hmx := max0 Try.prog
      have hn0 := mx_nonneg ed
      have hs : mx ed % 5 = 0 ∨ mx ed % 5 = 1 ∨ mx ed % 5 = 2 ∨ mx ed % 5 = 3 ∨ mx ed % 5 = 4 := by omega
      go_upto_block 2 with fail
      have HQ := Lib.hid (Holds.new wr #[.int .i64 ed, .int .i64 ec, .slice aoe L cape] 34)
      have HPa := Lib.hid (HP.out.gr0 ((Gr.refl [] wr).alloc (Obj.cells #[.int .i64 ed, .int .i64 ec, .slice aoe L cape] 34)))
      have HZa := Lib.hid (HZ.out.gr0 ((Gr.refl [] wr).alloc (Obj.cells #[.int .i64 ed, .int .i64 ec, .slice aoe L cape] 34)))
      have HB7A := Lib.hid (show wr.heap.size ∉ a.all from fun q => by
        obtain ⟨vs, hi, _⟩ := HP.out.p.is
        have := hi.lt _ q; omega)
      have HB7R := Lib.hid (show wr.heap.size ∉ r.all from fun q => by have := HP.out.x.lt _ q; omega)
      have HAN := Lib.hid (show ∀ b ∈ a.all, w.heap.size ≤ b from fun b hb => (HP.out.p.new b hb).resolve_left (by simp))
      clear c0 c1 c2 HP HZ
      have q0 := HQ.out.cell 0
      have q1 := HQ.out.cell 1
      have q2 := HQ.out.cell 2
      have HB7L := Lib.hid HQ.out.lt
      generalize wr.alloc (Obj.cells #[.int .i64 ed, .int .i64 ec, .slice aoe L cape] 34) = wa at *
      generalize wr.heap.size = b7 at *
      generalize mx ed % 5 = sw at *
      go_cut [10] (fun ok wx => ok = .bool true ∧ DoneL w wx a n (k + 1) B (actS n S sw ec (exs.take L5)))
      case first =>
        have HP := HPa
        rcases hs with rfl | rfl | rfl | rfl | rfl
        · have HX0 := Lib.hid (show PL w wa.drew a r n k S ∧ SlZ wa.drew (.slice aoe L5 cape) (exs.take L5) from ⟨HPa.out.gr0 (Gr.refl [] wa).drew, HZa.out.gr0 (Gr.refl [] wa).drew⟩)
          go_wp2_with fail
          go_region_held3 (fun w' : World => w'.cell? ⟨b7, 1, none⟩ = some (.int .i64 ec)) (first | assumption | go_keep) ((first
            | (go_at_call 8; refine ((pask (HR5.out.1.p.more 1) (by omega) ec HR5.out.2.1 (by have := HX5.out; omega) HWX.out)).mono ?_; rintro e w6 ⟨rfl, h6, g6⟩; have s6 := (g6.block b7 HR5.out.2.2.2.1 HB7A.out); have s7 : w6.cell? ⟨b7, 1, none⟩ = some (.int .i64 ec) := (World.cell?_of_block (w := w5) (a := ⟨b7, 1, none⟩) s6).trans s5; have HF := Lib.hid (show DoneL w w6 a n (k + 1) B _ from ⟨r5, HR5.out.1.thenP h6 g6, HR5.out.2.2.1⟩); clear h6 g6 s6)
            | (go_at_call 9; refine ((raskB HBB.out HP5.out.1.x (by omega) ec HP5.out.2.1 HX5.out (fun hne b hb q => by have := HVA.out hne b hb; have := HP.out.new b q; omega))).mono ?_; rintro e w6 ⟨r6, rfl, h6, g6, n6⟩; have s6 := (g6.block b7 HP5.out.2.2 HB7R.out); have s7 : w6.cell? ⟨b7, 1, none⟩ = some (.int .i64 ec) := (World.cell?_of_block (w := w5) (a := ⟨b7, 1, none⟩) s6).trans s5; have HF := Lib.hid (show DoneL w w6 a n (k + 1) B _ from ⟨r6, HP5.out.1.thenR h6 g6 n6, n6.2.trans HBB.out⟩); clear h6 g6 s6)
            | (go_at_call 8; refine ((pask (HX0.out.1.p.more 1) (by omega) ec HX0.out.2 (by have := HX5.out; omega) HWX.out)).mono ?_; rintro e w5 ⟨rfl, h5, g5⟩; have s5 : w5.cell? ⟨b7, 1, none⟩ = some (.int .i64 ec) := (World.cell?_of_block (w := wa) (a := ⟨b7, 1, none⟩) (g5.block b7 HB7L.out HB7A.out)).trans q1; have HP5 := Lib.hid (And.intro (HX0.out.1.thenP h5 g5) (And.intro (HX0.out.2.grB g5 (fun hne b hb q => by have := HVA.out hne b hb; have := HAN.out b q; omega)) (Nat.lt_of_lt_of_le HB7L.out g5.size))); clear h5 g5)
            | (go_at_call 9; refine ((raskB HBB.out HX0.out.1.x (by omega) ec HX0.out.2 HX5.out (fun hne b hb q => by have := HVA.out hne b hb; have := HP.out.new b q; omega))).mono ?_; rintro e w5 ⟨r5, rfl, h5, g5, n5⟩; have s5 : w5.cell? ⟨b7, 1, none⟩ = some (.int .i64 ec) := (World.cell?_of_block (w := wa) (a := ⟨b7, 1, none⟩) (g5.block b7 HB7L.out HB7R.out)).trans q1; have HR5 := Lib.hid (And.intro (HX0.out.1.thenR h5 g5 n5) (And.intro (HX0.out.2.grB g5 (fun hne b hb q => by have := HVA.out hne b hb; have := HX0.out.1.new b q; omega)) (And.intro (n5.2.trans HBB.out) (And.intro (Nat.lt_of_lt_of_le HB7L.out g5.size) trivial)))); clear h5 g5 n5)))
          all_goals
            go_wp2_with fail
            go_meet
            exact ⟨rfl, HF.out⟩
        · go_wp2_with fail
          go_at_call 12
          refine (pstep HP.out.p (by omega) ec).mono ?_
          rintro e w5 ⟨rfl, h5, g5⟩
          have s5 : w5.cell? ⟨b7, 1, none⟩ = some (.int .i64 ec) := (World.cell?_of_block (w := wa) (a := ⟨b7, 1, none⟩) (g5.block b7 HB7L.out HB7A.out)).trans q1
          have HP5 := Lib.hid (And.intro (PX.thenP HP.out h5 g5) (Nat.lt_of_lt_of_le HB7L.out g5.size))
          clear h5 g5
          go_wp2_with fail
          go_at_call 13
          refine (rstepB HBB.out HP5.out.1.x (by omega) ec).mono ?_
          rintro e w6 ⟨r6, rfl, h6, g6, n6⟩
          have HF := Lib.hid (show DoneL w w6 a n (k + 1) B _ from ⟨r6, HP5.out.1.thenR h6 g6 n6, n6.2.trans HBB.out⟩)
          clear h6 g6 n6
          go_wp2_with fail
          go_meet
          exact ⟨rfl, HF.out⟩
        · go_wp2_with fail
          go_at_call 12
          refine (pstep HP.out.p (by omega) ec).mono ?_
          rintro e w5 ⟨rfl, h5, g5⟩
          have s5 : w5.cell? ⟨b7, 1, none⟩ = some (.int .i64 ec) := (World.cell?_of_block (w := wa) (a := ⟨b7, 1, none⟩) (g5.block b7 HB7L.out HB7A.out)).trans q1
          have HP5 := Lib.hid (And.intro (PX.thenP HP.out h5 g5) (Nat.lt_of_lt_of_le HB7L.out g5.size))
          clear h5 g5
          go_wp2_with fail
          go_at_call 13
          refine (rstepB HBB.out HP5.out.1.x (by omega) ec).mono ?_
          rintro e w6 ⟨r6, rfl, h6, g6, n6⟩
          have HF := Lib.hid (show DoneL w w6 a n (k + 1) B _ from ⟨r6, HP5.out.1.thenR h6 g6 n6, n6.2.trans HBB.out⟩)
          clear h6 g6 n6
          go_wp2_with fail
          go_meet
          exact ⟨rfl, HF.out⟩
        · go_wp2_with fail
          go_at_call 12
          refine (pstep HP.out.p (by omega) ec).mono ?_
          rintro e w5 ⟨rfl, h5, g5⟩
          have s5 : w5.cell? ⟨b7, 1, none⟩ = some (.int .i64 ec) := (World.cell?_of_block (w := wa) (a := ⟨b7, 1, none⟩) (g5.block b7 HB7L.out HB7A.out)).trans q1
          have HP5 := Lib.hid (And.intro (PX.thenP HP.out h5 g5) (Nat.lt_of_lt_of_le HB7L.out g5.size))
          clear h5 g5
          go_wp2_with fail
          go_at_call 13
          refine (rstepB HBB.out HP5.out.1.x (by omega) ec).mono ?_
          rintro e w6 ⟨r6, rfl, h6, g6, n6⟩
          have HF := Lib.hid (show DoneL w w6 a n (k + 1) B _ from ⟨r6, HP5.out.1.thenR h6 g6 n6, n6.2.trans HBB.out⟩)
          clear h6 g6 n6
          go_wp2_with fail
          go_meet
          exact ⟨rfl, HF.out⟩
        · have HX0 := Lib.hid (show PL w wa.drew a r n k S ∧ SlZ wa.drew (.slice aoe L5 cape) (exs.take L5) from ⟨HPa.out.gr0 (Gr.refl [] wa).drew, HZa.out.gr0 (Gr.refl [] wa).drew⟩)
          go_wp2_with fail
          go_region_held3 (fun w' : World => w'.cell? ⟨b7, 1, none⟩ = some (.int .i64 ec)) (first | assumption | go_keep) ((first
            | (go_at_call 10; refine ((pdrop (HR5.out.1.p.more 1) ec)).mono ?_; rintro e w6 ⟨rfl, h6, g6⟩; have s6 := (g6.block b7 HR5.out.2.2.2.1 HB7A.out); have s7 : w6.cell? ⟨b7, 1, none⟩ = some (.int .i64 ec) := (World.cell?_of_block (w := w5) (a := ⟨b7, 1, none⟩) s6).trans s5; have HF := Lib.hid (show DoneL w w6 a n (k + 1) B _ from ⟨r5, HR5.out.1.thenP h6 g6, HR5.out.2.2.1⟩); clear h6 g6 s6)
            | (go_at_call 11; refine ((rdropB HBB.out HP5.out.1.x (by omega) ec)).mono ?_; rintro e w6 ⟨r6, rfl, h6, g6, n6⟩; have s6 := (g6.block b7 HP5.out.2.2 HB7R.out); have s7 : w6.cell? ⟨b7, 1, none⟩ = some (.int .i64 ec) := (World.cell?_of_block (w := w5) (a := ⟨b7, 1, none⟩) s6).trans s5; have HF := Lib.hid (show DoneL w w6 a n (k + 1) B _ from ⟨r6, HP5.out.1.thenR h6 g6 n6, n6.2.trans HBB.out⟩); clear h6 g6 s6)
            | (go_at_call 10; refine ((pdrop (HX0.out.1.p.more 1) ec)).mono ?_; rintro e w5 ⟨rfl, h5, g5⟩; have s5 : w5.cell? ⟨b7, 1, none⟩ = some (.int .i64 ec) := (World.cell?_of_block (w := wa) (a := ⟨b7, 1, none⟩) (g5.block b7 HB7L.out HB7A.out)).trans q1; have HP5 := Lib.hid (And.intro (HX0.out.1.thenP h5 g5) (And.intro (HX0.out.2.grB g5 (fun hne b hb q => by have := HVA.out hne b hb; have := HAN.out b q; omega)) (Nat.lt_of_lt_of_le HB7L.out g5.size))); clear h5 g5)
            | (go_at_call 11; refine ((rdropB HBB.out HX0.out.1.x (by omega) ec)).mono ?_; rintro e w5 ⟨r5, rfl, h5, g5, n5⟩; have s5 : w5.cell? ⟨b7, 1, none⟩ = some (.int .i64 ec) := (World.cell?_of_block (w := wa) (a := ⟨b7, 1, none⟩) (g5.block b7 HB7L.out HB7R.out)).trans q1; have HR5 := Lib.hid (And.intro (HX0.out.1.thenR h5 g5 n5) (And.intro (HX0.out.2.grB g5 (fun hne b hb q => by have := HVA.out hne b hb; have := HX0.out.1.new b q; omega)) (And.intro (n5.2.trans HBB.out) (And.intro (Nat.lt_of_lt_of_le HB7L.out g5.size) trivial)))); clear h5 g5 n5)))
          all_goals
            go_wp2_with fail
            go_meet
            exact ⟨rfl, HF.out⟩
      case rest =>
        obtain ⟨rfl, r2, hP2, hb2⟩ := hcut
        have HP2 := Lib.hid hP2
        have HB2 := Lib.hid hb2
        clear hP2 hb2 hmx hn0 hs hmn q0 q1 q2
        generalize actS n S sw ec (exs.take L5) = S2 at *
        go_wp2_with fail
        go_loopw [107, 10] (fun i ok wl => ∃ j : Nat, j ≤ n ∧ i = .int .i64 j ∧ ok = .bool true ∧ PL w wl a r2 n (k + 1) S2) (fun i _ _ => n - (intOf i).toNat)
        case atStart => exact ⟨0, by omega, rfl, rfl, HP2.out⟩
        case round =>
          clear HP2
          obtain ⟨j, hj, rfl, rfl, hP⟩ := hrel
          have HP3 := Lib.hid hP
          clear hP
          by_cases hjn : j < n
          · have ij : (j : Int) < (n : Int) := by omega
            go_wp2_with fail
            go_at_call 15
            refine (phas HP3.out.p hjn (by omega)).mono ?_
            rintro e w5 ⟨v5, l5, rfl, hz5, hr5, hm5, g5⟩
            have H5 := Lib.hid (And.intro hz5 (And.intro hr5 (And.intro hm5 (HP3.out.gr0 g5))))
            clear hz5 hr5 hm5 g5
            go_wp2_with fail
            go_at_call 16
            refine (rhadB HB2.out H5.out.2.2.2.x (by omega) j).mono ?_
            rintro e w6 ⟨v6, l6, rfl, hz6, hr6, hm6, g6⟩
            obtain rfl : l5 = l6 := H5.out.2.1.uniq hr6 fun z => (H5.out.2.2.1 z).trans (hm6 z).symm
            have H6 := Lib.hid (And.intro (H5.out.1.gr0 g6) (And.intro hz6 (H5.out.2.2.2.gr0 g6)))
            clear hz6 hr6 hm6 g6
            have HEQ := equal_at v5 v6 l5 l5 w6 H6.out.1 H6.out.2.1
            rw [decide_eq_true rfl] at HEQ
            have HEQ := Lib.hid HEQ
            go_wp2_with fail
            go_at_call 14
            refine HEQ.out.mono ?_
            rintro e w7 ⟨rfl, g7⟩
            have H7 := Lib.hid (H6.out.2.2.gr0 g7)
            clear g7
            obtain ⟨z, hz⟩ : ∃ z, waitZ S2 j = z := ⟨_, rfl⟩
            have HW1 := Lib.hid (lr_waits H7.out.p hjn hz)
            have HW2 := Lib.hid (fun W (h : PL w W a r2 n (k + 1) S2) => rwaitsB HB2.out h.x (by omega) hjn hz)
            clear hz
            go_wp2_with fail
            go_at_call 17
            refine HW1.out.mono ?_
            rintro e w8 ⟨rfl, -, g8⟩
            have H8 := Lib.hid (H7.out.gr0 g8)
            clear g8
            go_wp2_with fail
            go_at_call 18
            refine (HW2.out _ H8.out).mono ?_
            rintro e w9 ⟨rfl, g9⟩
            have H9 := Lib.hid (H8.out.gr0 g9)
            clear g9
            go_wp2_with fail
            go_roundw
            case rel => exact ⟨j + 1, by omega, by go_num, by simp, H9.out⟩
            case measure => simp [intOf]; omega
          · obtain rfl : j = n := by omega
            have ij : ¬ ((j : Int) < (j : Int)) := by omega
            obtain ⟨vs, hi, hv⟩ := HP3.out.p.is
            have HI := Lib.hid hi
            clear hi hv
            have HO1 := Lib.hid (show chkE j (j : Int) = 2 by unfold chkE; rw [if_neg (by omega)])
            have HO2 := Lib.hid (show chkE j (-1) = 2 by unfold chkE; rw [if_neg (by omega)])
            go_wp2_with (first
              | (go_at_call 15; refine (has_out a j (k + 1) vs S2 _ _ HI.out HO1.out).mono ?_; rintro e w5 ⟨rfl, hw⟩; rw [hw])
              | (go_at_call 17; refine (waits_out a j (k + 1) vs S2 _ _ HI.out HO2.out).mono ?_; rintro e w5 ⟨rfl, hw⟩; rw [hw]))
            go_roundw
            case rel => exact ⟨k + 1, S2, r2, by omega, by go_num, HP3.out, HB2.out⟩
            case measure => simp [intOf]; omega
    · obtain rfl : k = N6 := by omega
      have ik : ¬ ((k : Int) < (k : Int)) := by omega
      go_wp2_with fail
      go_ret
      exact ⟨rfl, HP.out.p.gr⟩
theorem walk_LockPlays (K : Int) (v : Value) (R : List AL24) {w : World} (_ : (Lit.int .i64 K).wf = true) (hR : ActsZ w v R) : Calls Try.prog 3 #[.int .i64 K, v] w fun e w' => e = .returned (.bool true) ∧ Below w.heap.size w w' :=
  (plays24 K v R w hR).mono fun _ _ ⟨h, g⟩ => ⟨h, g.below0⟩
end Go.Proofs.Ytlafmdpcabgcdaa
