/-
  Layer 16: the law's tame, of files.
-/
import Derived.Test.YtpkhfdcokcchdabInP
import Derived.Test.YtpkhfdcokcchdabExPr
namespace Go.Proofs.Ytpkhfdcokcchdab
open Go.RowKit

def tmF (e : Int × Int) : Int × Int := (if e.1 < 0 then -1 else e.1 % 300, 1 + mx e.2 % 4)
theorem tmF_bd (e : Int × Int) : -1 ≤ (tmF e).1 ∧ (tmF e).1 ≤ 299 ∧ 1 ≤ (tmF e).2 ∧ (tmF e).2 ≤ 4 := by
  unfold tmF mx
  simp only
  split <;> omega
theorem tmF_all (l : List (Int × Int)) : ∀ e ∈ l.map tmF, -1 ≤ e.1 ∧ e.1 ≤ 299 ∧ 1 ≤ e.2 ∧ e.2 ≤ 4 := by
  intro e he
  obtain ⟨x, _, rfl⟩ := List.mem_map.1 he
  exact tmF_bd x
theorem blkF_mem {l : List (Int × Int)} (h : ∀ e ∈ l, -1 ≤ e.1 ∧ e.1 ≤ 299 ∧ 1 ≤ e.2 ∧ e.2 ≤ 4) : ∀ x ∈ blk l, -1 ≤ x ∧ x ≤ 1000000 := by
  intro x hx
  obtain ⟨e, he, hxe⟩ := List.mem_flatMap.1 hx
  have := h e he
  rcases blkR_mem hxe with q | q <;> omega
theorem blkF_short {l : List (Int × Int)} (h : ∀ e ∈ l, -1 ≤ e.1 ∧ e.1 ≤ 299 ∧ 1 ≤ e.2 ∧ e.2 ≤ 4) : (blk l).length ≤ 4 * l.length := by
  induction l with
  | nil => simp [blk]
  | cons e r ih =>
    have h1 := h e (by simp)
    have h2 := ih (fun x hx => h x (by simp [hx]))
    rw [blk_cons, List.length_append, blkR_len, List.length_cons]
    omega
/-- The list that tame makes of few blocks may be. -/
theorem tamF_right {l : List (Int × Int)} (h : ∀ e ∈ l, -1 ≤ e.1 ∧ e.1 ≤ 299 ∧ 1 ≤ e.2 ∧ e.2 ≤ 4) (hl : l.length ≤ 10) : Right15 (joinP l) ∧ sumZ (joinP l) = ((blk l).length : Int) ∧ (joinP l).length ≤ 10 := by
  have hj := join_take_ok (l := l) (B := 299) (fun e he => by have := h e he; exact ⟨this.1, this.2.1, this.2.2.1⟩) l.length (Nat.le_refl _)
  rw [List.take_length] at hj
  have hb := blk_len (l := l) (fun e he => (h e he).2.2.1)
  have hs := blkF_short h
  have hn := len_fold l []
  have hn2 : (joinP l).length ≤ 10 := by unfold joinP; simp only [List.length_nil] at hn; omega
  have hm := sumZ_mem (l := joinP l) (fun p hp => (hj.1 p hp).2.2)
  refine ⟨⟨by omega, ⟨by rw [List.take_length]; exact fun e he => ⟨(hj.1 e he).1, by have := (hj.1 e he).2.1; omega, (hj.1 e he).2.2, by have := hm.2 e he; omega⟩, by rw [List.take_length]; exact apart_join _⟩, by omega⟩, by omega, hn2⟩
theorem infoI16 : (Try.prog.info? 3).map (fun i => (i.zero, i.size, i.bytes)) = some (some (.int .i64 0), 1, 8) := by kernel_rfl
theorem need_tame (n r : Int) (h1 : 1 ≤ n) (h0 : 0 ≤ r) (h2 : r < 64) : needZ (64 * n - r) = n := by
  unfold needZ
  rw [if_neg (by omega)]
  omega
set_option maxHeartbeats 8000000 in
set_option maxRecDepth 100000 in
theorem tame_file (k : Nat) (l s : Int) (bl : List (Int × Int)) (t : ByteArray) (N : Nat) (ao : Option Addr) (cV : Nat) (w : World) (hv : Sl2 w (.slice ao N cV) bl) (ht : t.size ≤ maxLen) (hk : (k : Int) % 3 = 0) (hk0 : k < 256) :
    Calls Try.prog 12 #[.agg #[.int .u8 k, .int .i64 l, .int .i64 s, .slice ao N cV, .string t]] w (TamI w) := by
  obtain ⟨M, hM⟩ : ∃ M, M = min N 70 := ⟨_, rfl⟩
  obtain ⟨U, hU⟩ : ∃ U, U = t.extract 0 (min t.size 300) := ⟨_, rfl⟩
  obtain ⟨cl, hcl⟩ : ∃ cl, cl = bl.take 70 := ⟨_, rfl⟩
  have hU300 : U.size ≤ 300 := by rw [hU, ByteArray.size_extract]; omega
  have hM70 : M ≤ 70 := by omega
  have HG1 := Lib.hid (((Gr.refl [] w).alloc (Obj.cells #[.int .u8 k, .int .i64 l, .int .i64 s, .slice ao N cV, .string t] 24)).alloc (Obj.cells #[.int .u8 0, .int .i64 0, .int .i64 0, .slice none 0 0, .string ⟨#[]⟩] 24))
  have HA1 := Lib.hid ((Holds.new w #[.int .u8 k, .int .i64 l, .int .i64 s, .slice ao N cV, .string t] 24).alloc (Obj.cells #[.int .u8 0, .int .i64 0, .int .i64 0, .slice none 0 0, .string ⟨#[]⟩] 24))
  have hz := Holds.new (w.alloc (Obj.cells #[.int .u8 k, .int .i64 l, .int .i64 s, .slice ao N cV, .string t] 24)) #[.int .u8 0, .int .i64 0, .int .i64 0, .slice none 0 0, .string ⟨#[]⟩] 24
  rw [World.size_alloc] at hz
  have HZ1 := Lib.hid hz
  have HCT := Lib.hid (ecut16_any k l s bl t N ao cV _ (hv.gr0 HG1.out) ht)
  rw [← hM, ← hU] at HCT
  have hvc := sl2_take hv 70
  rw [← hM, ← hcl] at hvc
  have HVC := Lib.hid (And.intro hvc (sl2_parts hvc))
  have HM := Lib.hid (show M = cl.length from (sl2_parts hvc).1)
  have hmx := max0 Try.prog
  have hl0 := mx_nonneg l
  have hs0 := mx_nonneg s
  obtain ⟨l1, hl1⟩ : ∃ l1, l1 = mx l % 1001 := ⟨_, rfl⟩
  have hl1b : 0 ≤ l1 ∧ l1 ≤ 1000 := by omega
  have HL1 := Lib.hid hl1
  obtain ⟨i0, hi0, hz0, hz1, hz2⟩ := info_parts infoI16
  obtain ⟨m, hmm⟩ : ∃ m, m = min M 10 := ⟨_, rfl⟩
  have hmn := minZ Try.prog (M : Int) 10 (m : Int) (by omega)
  have hmM : m ≤ M := by omega
  have hm10 : m ≤ 10 := by omega
  have HMM := Lib.hid hmm
  have hmc : m ≤ cV := by have := (sl2_parts hvc).2.2.1; omega
  have hmci : (m : Int) ≤ (cV : Int) := by omega
  clear hmm
  clear hz hv ht hM hU hcl hvc hl1
  go_enter Try.func12, Try.ntmps12
  go_wp2_with fail
  with_reducible refine HCT.out.mono ?_
  rintro e w1 ⟨rfl, g1⟩
  have HA2 := Lib.hid (HA1.out.gr0 g1)
  have HZ2 := Lib.hid (HZ1.out.gr0 g1)
  have HG2 := Lib.hid (HG1.out.next0 g1)
  clear g1 HA1 HZ1 HG1 HCT
  have HA3 := Lib.hid (holds5 (c0 := .int .u8 k) (c1 := .int .i64 l) (c2 := .int .i64 s) (c3 := .slice ao M cV) (c4 := .string U) HA2.out)
  have HZ3 := Lib.hid (far5 HZ2.out (b' := w.heap.size) (by omega) (.int .u8 k) (.int .i64 l) (.int .i64 s) (.slice ao M cV) (.string U))
  have HG3 := Lib.hid (gr5 HG2.out (b := w.heap.size) (.inr (Nat.le_refl _)) (.int .u8 k) (.int .i64 l) (.int .i64 s) (.slice ao M cV) (.string U))
  have a0 := HA2.out.cell 0
  have a1 := HA2.out.cell 1
  have a2 := HA2.out.cell 2
  have a3 := HA2.out.cell 3
  have a4 := HA2.out.cell 4
  have f0 := HA2.out.frozen 0
  have f1 := HA2.out.frozen 1
  have f2 := HA2.out.frozen 2
  have f3 := HA2.out.frozen 3
  have f4 := HA2.out.frozen 4
  go_upto_region 2 with fail
  generalize (((((w1.setCell ⟨w.heap.size, 0, none⟩ (.int .u8 k)).setCell ⟨w.heap.size, 1, none⟩ (.int .i64 l)).setCell ⟨w.heap.size, 2, none⟩ (.int .i64 s)).setCell ⟨w.heap.size, 3, none⟩ (.slice ao M cV)).setCell ⟨w.heap.size, 4, none⟩ (.string U)) = w2 at *
  clear a0 a1 a2 a3 a4 f0 f1 f2 f3 f4 HA2 HZ2 HG2
  have a0 := HA3.out.cell 0
  have a1 := HA3.out.cell 1
  have hl2 : mx l % 1001 = l1 := HL1.out.symm
  have HY4 := Lib.hid (Holds.new w2 #[.int .u8 1, .int .i64 l1, .int .i64 0, .slice none 0 0, .string ⟨#[]⟩] 24)
  have HA4 := Lib.hid (HA3.out.alloc (Obj.cells #[.int .u8 1, .int .i64 l1, .int .i64 0, .slice none 0 0, .string ⟨#[]⟩] 24))
  have HZ4 := Lib.hid (HZ3.out.alloc (Obj.cells #[.int .u8 1, .int .i64 l1, .int .i64 0, .slice none 0 0, .string ⟨#[]⟩] 24))
  have HG4 := Lib.hid (HG3.out.alloc (Obj.cells #[.int .u8 1, .int .i64 l1, .int .i64 0, .slice none 0 0, .string ⟨#[]⟩] 24))
  have HBZ := Lib.hid (HZ3.out.lt)
  go_upto_region 6 with fail
  generalize w2.alloc (Obj.cells #[.int .u8 1, .int .i64 l1, .int .i64 0, .slice none 0 0, .string ⟨#[]⟩] 24) = w3 at *
  generalize w2.heap.size = b3 at *
  have hbz : w.heap.size ≠ b3 := by have := HBZ.out; omega
  have hbz2 : w.heap.size + 1 ≠ b3 := by have := HBZ.out; omega
  have hb3 : w.heap.size ≤ b3 := by have := HBZ.out; omega
  clear a0 a1
  have a0 := HA4.out.cell 0
  have a3 := HA4.out.cell 3
  go_wp2_with fail
  clear a0 a3 hmn
  try rw [hk]
  try rw [hl2]
  clear hk hl2
  go_loopw [4, 33] (fun v i wr => ∃ j : Nat, j ≤ m ∧ i = .int .i64 j ∧ wr.ownsRow w3.heap.size 3 1 v (blk ((cl.take j).map tmF)).length (cellsZ (blk ((cl.take j).map tmF))) ∧ Gr [] w3 wr) (fun _ i _ => m - (intOf i).toNat)
  case atStart => exact ⟨0, by omega, rfl, World.ownsRow_nil _ _ _ _, Gr.refl _ _⟩
  case round =>
    obtain ⟨j, hj, rfl, ho, G⟩ := hrel
    have HQ := Lib.hid (And.intro ho G)
    have hsz := G.size
    have Gw := HG4.out.next0 G
    clear ho G
    by_cases hjm : j < m
    · have hjm2 : (j : Int) < (m : Int) := by omega
      obtain ⟨⟨x1, x2⟩, hx⟩ : ∃ x, cl[j]? = some x := ⟨_, List.getElem?_eq_getElem (by have := HM.out; omega)⟩
      obtain ⟨bk, o, hao, hb, c1, c2⟩ := HVC.out.2.2.1 j _ hx
      have y0 : wr.cell? ⟨bk, o + j * 2, none⟩ = some (.int .i64 x1) := (Gw.cell0 hb).trans c1
      have y1 : wr.cell? ⟨bk, o + j * 2 + 1, none⟩ = some (.int .i64 x2) := (Gw.cell0 hb).trans c2
      have HTK := Lib.hid (show blk ((cl.take (j + 1)).map tmF) = blk ((cl.take j).map tmF) ++ blkR (tmF (x1, x2)) by
        rw [take_snoc2 hx, List.map_append, blk_append]; simp [blk])
      have HBS := Lib.hid (show (blk ((cl.take j).map tmF)).length ≤ 200 by
        have := blkF_short (tmF_all (cl.take j))
        rw [List.length_map, List.length_take] at this
        omega)
      subst hao
      clear c1 c2 hx Gw
      obtain ⟨tt, htt⟩ : ∃ t, t = (tmF (x1, x2)).1 := ⟨_, rfl⟩
      obtain ⟨n, hn⟩ : ∃ n : Nat, (n : Int) = 1 + mx x2 % 4 := ⟨(1 + mx x2 % 4).toNat, by have := mx_nonneg x2; omega⟩
      have htm : tmF (x1, x2) = (tt, (n : Int)) := by rw [htt, hn]; rfl
      rw [htm] at HTK
      have hbd := tmF_bd (x1, x2)
      rw [htm] at hbd
      simp only at hbd
      have hn0 := mx_nonneg x2
      have HQY := Lib.hid (And.intro (HQ.out.1.alloc (Obj.cells #[.int .i64 x1, .int .i64 x2] 46)) (HQ.out.2.alloc (Obj.cells #[.int .i64 x1, .int .i64 x2] 46)))
      have HX := Lib.hid (Holds.new wr #[.int .i64 x1, .int .i64 x2] 46)
      have hn' : 1 + mx x2 % 4 = (n : Int) := hn.symm
      by_cases hneg : x1 < 0
      · have hm1 := maxZ Try.prog (-1) x1 (-1) (by omega)
        have htv : tt = -1 := by rw [htt]; unfold tmF; simp [hneg]
        subst htv
        clear htt htm hn
        obtain ⟨P0, hP0⟩ : ∃ P0, P0 = blk ((cl.take j).map tmF) := ⟨_, rfl⟩
        rw [← hP0] at HQY HTK HBS
        clear hP0
        go_wp2_with fail
        go_loopw [4, 46] (fun v i wr => ∃ (q : Nat) (C : List Int), q ≤ n ∧ i = .int .i64 q ∧ Hid (C = P0 ++ blkR ((-1), (q : Int))) ∧ wr.ownsRow w3.heap.size 3 1 v C.length (cellsZ C) ∧ Gr [] w3 wr) (fun _ i _ => n - (intOf i).toNat)
        case atStart => exact ⟨0, P0, by omega, rfl, Lib.hid (by simp [blkR]), HQY.out.1, HQY.out.2⟩
        case round =>
          clear HQY
          obtain ⟨q, C, hq, rfl, HC, ho, G⟩ := hrel
          have HQ2 := Lib.hid (And.intro ho G)
          have hsz2 := G.size
          clear ho G
          by_cases hqn : q < n
          · have hqn2 : (q : Int) < (n : Int) := by omega
            have HUP := Lib.hid (show C ++ [(-1)] = P0 ++ blkR ((-1), ((q + 1 : Nat) : Int)) by
              rw [show ((q + 1 : Nat) : Int) = (q : Int) + 1 by omega, blkR_up, HC.out, List.append_assoc]
              simp)
            have hCl : C.length ≤ 300 := by
              rw [HC.out, List.length_append, blkR_len]
              have := HBS.out
              simp only
              omega
            have HN3 := Lib.hid (Holds.new wr #[.int .i64 ((-1))] 3)
            have HO3 := Lib.hid (HQ2.out.1.alloc (Obj.cells #[.int .i64 ((-1))] 3))
            have hone : ∀ u ∈ [Value.int .i64 ((-1))], u.oneCell' = true := by simp [Value.oneCell']
            have hw : IntKind.i64.wrap ((-1)) = ((-1)) := IntWalk.i64_in _ (by omega)
            go_wp2_with (at_builtin; refine wpList_append_own _ rfl _ _ 68 rfl w3.heap.size 3 i0 _ 1 8 Try.underlying68 hi0 hz0 hz1 hz2 rfl (by decide) _ _ _ rfl HO3.out ⟨wr.heap.size, 0, none⟩ 1 1 [.int .i64 ((-1))] rfl rfl (World.news_of_block HN3.out) hone (by unfold maxLen; omega) (by omega) (by rw [World.size_alloc]; omega) ?_)
            intro v4 w4 hown4 hgrow4 _
            have hlt4 := HO3.out.lt
            have HF := Lib.hid (And.intro (show w4.ownsRow w3.heap.size 3 1 v4 (C ++ [(-1)]).length (cellsZ (C ++ [(-1)])) by
              rw [List.length_append, cellsZ_append]; exact hown4) ((HQ2.out.2.alloc (Obj.cells #[.int .i64 ((-1))] 3)).nextN (gr_grown hgrow4) (fun x hx => .inr (hlt4 x (by simpa using hx)).1)))
            clear hown4 hgrow4 hlt4 HO3 HN3 hone
            go_wp2_with fail
            go_roundw
            case rel => exact ⟨q + 1, C ++ [(-1)], by omega, by go_num, HUP, HF.out.1, HF.out.2⟩
            case measure => simp [intOf]; omega
          · obtain rfl : q = n := by omega
            have HF := Lib.hid (show wr.ownsRow w3.heap.size 3 1 u4 (blk ((cl.take (j + 1)).map tmF)).length (cellsZ (blk ((cl.take (j + 1)).map tmF))) by
              rw [HTK.out, ← HC.out]; exact HQ2.out.1)
            go_wp2_with fail
            go_roundw
            case rel => exact ⟨j + 1, by omega, by go_num, HF.out, HQ2.out.2⟩
            case measure => simp [intOf]; omega
      · have hm1 := maxZ Try.prog (-1) x1 x1 (by omega)
        have htv : x1 % 300 = tt := by rw [htt]; unfold tmF; simp [hneg]
        have htt0 : 0 ≤ tt := by omega
        clear htt htm hn
        obtain ⟨P0, hP0⟩ : ∃ P0, P0 = blk ((cl.take j).map tmF) := ⟨_, rfl⟩
        rw [← hP0] at HQY HTK HBS
        clear hP0
        go_wp2_with fail
        go_loopw [4, 46] (fun v i wr => ∃ (q : Nat) (C : List Int), q ≤ n ∧ i = .int .i64 q ∧ Hid (C = P0 ++ blkR (tt, (q : Int))) ∧ wr.ownsRow w3.heap.size 3 1 v C.length (cellsZ C) ∧ Gr [] w3 wr) (fun _ i _ => n - (intOf i).toNat)
        case atStart => exact ⟨0, P0, by omega, rfl, Lib.hid (by simp [blkR]), HQY.out.1, HQY.out.2⟩
        case round =>
          clear HQY
          obtain ⟨q, C, hq, rfl, HC, ho, G⟩ := hrel
          have HQ2 := Lib.hid (And.intro ho G)
          have hsz2 := G.size
          clear ho G
          by_cases hqn : q < n
          · have hqn2 : (q : Int) < (n : Int) := by omega
            have HUP := Lib.hid (show C ++ [tt + (q : Int)] = P0 ++ blkR (tt, ((q + 1 : Nat) : Int)) by
              rw [show ((q + 1 : Nat) : Int) = (q : Int) + 1 by omega, blkR_up, HC.out, List.append_assoc]
              rw [if_neg (show ¬ tt = -1 by omega)])
            have hCl : C.length ≤ 300 := by
              rw [HC.out, List.length_append, blkR_len]
              have := HBS.out
              simp only
              omega
            have HN3 := Lib.hid (Holds.new wr #[.int .i64 (tt + (q : Int))] 3)
            have HO3 := Lib.hid (HQ2.out.1.alloc (Obj.cells #[.int .i64 (tt + (q : Int))] 3))
            have hone : ∀ u ∈ [Value.int .i64 (tt + (q : Int))], u.oneCell' = true := by simp [Value.oneCell']
            have hw : IntKind.i64.wrap (tt + (q : Int)) = (tt + (q : Int)) := IntWalk.i64_in _ (by omega)
            go_wp2_with (at_builtin; refine wpList_append_own _ rfl _ _ 68 rfl w3.heap.size 3 i0 _ 1 8 Try.underlying68 hi0 hz0 hz1 hz2 rfl (by decide) _ _ _ rfl HO3.out ⟨wr.heap.size, 0, none⟩ 1 1 [.int .i64 (tt + (q : Int))] rfl rfl (World.news_of_block HN3.out) hone (by unfold maxLen; omega) (by omega) (by rw [World.size_alloc]; omega) ?_)
            intro v4 w4 hown4 hgrow4 _
            have hlt4 := HO3.out.lt
            have HF := Lib.hid (And.intro (show w4.ownsRow w3.heap.size 3 1 v4 (C ++ [tt + (q : Int)]).length (cellsZ (C ++ [tt + (q : Int)])) by
              rw [List.length_append, cellsZ_append]; exact hown4) ((HQ2.out.2.alloc (Obj.cells #[.int .i64 (tt + (q : Int))] 3)).nextN (gr_grown hgrow4) (fun x hx => .inr (hlt4 x (by simpa using hx)).1)))
            clear hown4 hgrow4 hlt4 HO3 HN3 hone
            go_wp2_with fail
            go_roundw
            case rel => exact ⟨q + 1, C ++ [tt + (q : Int)], by omega, by go_num, HUP, HF.out.1, HF.out.2⟩
            case measure => simp [intOf]; omega
          · obtain rfl : q = n := by omega
            have HF := Lib.hid (show wr.ownsRow w3.heap.size 3 1 u4 (blk ((cl.take (j + 1)).map tmF)).length (cellsZ (blk ((cl.take (j + 1)).map tmF))) by
              rw [HTK.out, ← HC.out]; exact HQ2.out.1)
            go_wp2_with fail
            go_roundw
            case rel => exact ⟨j + 1, by omega, by go_num, HF.out, HQ2.out.2⟩
            case measure => simp [intOf]; omega
    · obtain rfl : j = m := by omega
      have hE : cl.take j = cl.take 10 := by
        have h1 := HMM.out
        have h2 := HM.out
        rw [h1, h2]
        by_cases q : cl.length ≤ 10
        · rw [Nat.min_eq_left q, List.take_length, List.take_of_length_le q]
        · rw [Nat.min_eq_right (by omega)]
      rw [hE] at HQ
      obtain ⟨TT0, hTT⟩ : ∃ X, X = (cl.take 10).map tmF := ⟨_, rfl⟩
      rw [← hTT] at HQ
      have hta : ∀ e ∈ TT0, -1 ≤ e.1 ∧ e.1 ≤ 299 ∧ 1 ≤ e.2 ∧ e.2 ≤ 4 := by rw [hTT]; exact tmF_all _
      have htl : TT0.length ≤ 10 := by rw [hTT, List.length_map, List.length_take]; omega
      have HTR := Lib.hid (tamF_right hta htl)
      have HTM := Lib.hid (show runsP (blk TT0) = joinP TT0 from runs_blk TT0 (fun e he => ⟨(hta e he).1, (hta e he).2.2.1⟩))
      have hSH := blkF_short hta
      have HBM := Lib.hid (blkF_mem hta)
      obtain ⟨B, hB⟩ : ∃ B, B = blk TT0 := ⟨_, rfl⟩
      rw [← hB] at HQ HTM HBM hSH HTR
      obtain ⟨aa, cc, rfl⟩ := own_form2 HQ.out.1
      have hBl : B.length ≤ 40 := by omega
      have HRN := Lib.hid (rruns_any B B.length aa cc wr (own_rdZ HQ.out.1) rfl HBM.out (by omega))
      obtain ⟨J, hJ⟩ : ∃ J, J = joinP TT0 := ⟨_, rfl⟩
      rw [← hJ] at HTM HTR
      have HYr := Lib.hid (HY4.out.gr0 HQ.out.2)
      have HZr := Lib.hid (HZ4.out.gr0 HQ.out.2)
      have HAr := Lib.hid (HA4.out.gr0 HQ.out.2)
      have HGr := Lib.hid (HG4.out.next0 HQ.out.2)
      clear hB hE hSH hTT hta htl hJ HQ HY4 HZ4 HA4 HG4
      go_wp2_with fail
      with_reducible refine HRN.out.mono ?_
      rintro e w5 ⟨vR, rfl, ho, g5⟩
      rw [HTM.out] at ho
      obtain ⟨aR, cR, rfl⟩ := own_form2 ho
      have HS5 := Lib.hid (And.intro (own_sl2 ho) ho.lt)
      have HY5 := Lib.hid (HYr.out.gr0 g5)
      have HZ5 := Lib.hid (HZr.out.gr0 g5)
      have HA5 := Lib.hid (HAr.out.gr0 g5)
      have HG5 := Lib.hid (HGr.out.next0 g5)
      have HSZ := Lib.hid (Nat.lt_of_lt_of_le HYr.out.lt (Nat.le_refl _))
      clear ho g5 HYr HZr HAr HGr HRN
      have y0 := HY5.out.cell 0
      have y2 := HY5.out.cell 2
      have y3 := HY5.out.cell 3
      have g2 := HY5.out.frozen 2
      have g3 := HY5.out.frozen 3
      have a0 := HA5.out.cell 0
      have a2 := HA5.out.cell 2
      have a2b := (HA5.out.far (a := ⟨b3, 3, none⟩) hbz (.slice aR J.length cR)).cell 2
      have a0b := (HA5.out.far (a := ⟨b3, 3, none⟩) hbz (.slice aR J.length cR)).cell 0
      have HJB := Lib.hid (fun x (hx : (Value.slice aR J.length cR).ownBlock = some x) => (show x ≠ b3 ∧ x ≠ w.heap.size + 1 by
        have := (HS5.out.2 x hx).1
        have := HSZ.out
        have := HBZ.out
        omega))
      obtain ⟨r, hr⟩ : ∃ r, r = mx s % 64 := ⟨_, rfl⟩
      have hrb : 0 ≤ r ∧ r < 64 := by omega
      have hr2 : mx s % 64 = r := hr.symm
      clear hr
      by_cases hB0 : B.length = 0
      · have hBi : ¬ (0 : Int) < (B.length : Int) := by omega
        go_upto_region 29 with fail
        have HY := Lib.hid (show Holds (w5.setCell ⟨b3, 3, none⟩ (.slice aR J.length cR)) b3 #[.int .u8 1, .int .i64 l1, .int .i64 0, .slice aR J.length cR, .string ⟨#[]⟩] 24 from HY5.out.set 3 _)
        have HZ := Lib.hid (HZ5.out.far (a := ⟨b3, 3, none⟩) hbz2 (.slice aR J.length cR))
        have HG := Lib.hid (HG5.out.setCell (p := ⟨b3, 3, none⟩) (.inr hb3) (.slice aR J.length cR))
        have HSL := Lib.hid (HS5.out.1.gr (gr_mem (b := b3) (w := w5) (p := ⟨b3, 3, none⟩) rfl (.slice aR J.length cR)) (fun x hx hm => (HJB.out x hx).1 (by simpa using hm)))
        generalize w5.setCell ⟨b3, 3, none⟩ (.slice aR J.length cR) = w6 at *
        clear y0 y2 y3 g2 g3 a0 a2 a2b a0b HY5 HZ5 HA5 HG5
        have HRI := Lib.hid (show Right16 1 l1 0 J ⟨#[]⟩ from ⟨hl1b.1, hl1b.2, .inl ⟨rfl, by omega, by omega, rfl, HTR.out.1, by rw [HTR.out.2.1]; have : needZ 0 = 0 := rfl; omega⟩⟩)
        have x0 := HY.out.cell 0
        have x1 := HY.out.cell 1
        have x2 := HY.out.cell 2
        have x3 := HY.out.cell 3
        have x4 := HY.out.cell 4
        have r0 := HZ.out.cell 0
        have r1 := HZ.out.cell 1
        have r2 := HZ.out.cell 2
        have r3 := HZ.out.cell 3
        have r4 := HZ.out.cell 4
        have f0 := HZ.out.frozen 0
        have f1 := HZ.out.frozen 1
        have f2 := HZ.out.frozen 2
        have f3 := HZ.out.frozen 3
        have f4 := HZ.out.frozen 4
        go_wp2_with fail
        refine bodyPost_ret (v := .agg #[.int .u8 1, .int .i64 l1, .int .i64 0, .slice aR J.length cR, .string ⟨#[]⟩]) (by simp [results, Try.results12, go_sem, *]) rfl ⟨1, l1, 0, J, ⟨#[]⟩, aR, cR, rfl, ?_, HRI.out, ?_⟩
        · exact HSL.out.gr (gr5 (Gr.refl [w.heap.size + 1] w6) (.inl (by simp)) _ _ _ _ _) (fun x hx hm => (HJB.out x hx).2 (by simpa using hm))
        · exact gr5 HG.out (b := w.heap.size + 1) (.inr (by simp)) _ _ _ _ _
      · have hBi : (0 : Int) < (B.length : Int) := by omega
        have hw1 : IntKind.i64.wrap (64 * (B.length : Int)) = 64 * (B.length : Int) := IntWalk.i64_in _ (by omega)
        have hw2 : IntKind.i64.wrap (64 * (B.length : Int) - r) = 64 * (B.length : Int) - r := IntWalk.i64_in _ (by omega)
        go_upto_region 29 with fail
        obtain ⟨z, hz⟩ : ∃ z, z = 64 * (B.length : Int) - r := ⟨_, rfl⟩
        rw [← hz]
        have HY := Lib.hid (show Holds ((w5.setCell ⟨b3, 3, none⟩ (.slice aR J.length cR)).setCell ⟨b3, 2, none⟩ (.int .i64 z)) b3 #[.int .u8 1, .int .i64 l1, .int .i64 z, .slice aR J.length cR, .string ⟨#[]⟩] 24 from (HY5.out.set 3 _).set 2 _)
        have HZ := Lib.hid ((HZ5.out.far (a := ⟨b3, 3, none⟩) hbz2 (.slice aR J.length cR)).far (a := ⟨b3, 2, none⟩) hbz2 (.int .i64 z))
        have HG := Lib.hid ((HG5.out.setCell (p := ⟨b3, 3, none⟩) (.inr hb3) (.slice aR J.length cR)).setCell (p := ⟨b3, 2, none⟩) (.inr hb3) (.int .i64 z))
        have HSL := Lib.hid (HS5.out.1.gr ((gr_mem (b := b3) (w := w5) (p := ⟨b3, 3, none⟩) rfl (.slice aR J.length cR)).setCell (p := ⟨b3, 2, none⟩) (.inl (by simp)) (.int .i64 z)) (fun x hx hm => (HJB.out x hx).1 (by simpa using hm)))
        generalize (w5.setCell ⟨b3, 3, none⟩ (.slice aR J.length cR)).setCell ⟨b3, 2, none⟩ (.int .i64 z) = w6 at *
        clear y0 y2 y3 g2 g3 a0 a2 a2b a0b HY5 HZ5 HA5 HG5 hw1 hw2
        have HRI := Lib.hid (show Right16 1 l1 z J ⟨#[]⟩ from ⟨hl1b.1, hl1b.2, .inl ⟨rfl, by omega, by omega, rfl, HTR.out.1, by rw [HTR.out.2.1, hz]; exact (need_tame _ r (by omega) hrb.1 hrb.2).symm⟩⟩)
        clear hz
        have x0 := HY.out.cell 0
        have x1 := HY.out.cell 1
        have x2 := HY.out.cell 2
        have x3 := HY.out.cell 3
        have x4 := HY.out.cell 4
        have r0 := HZ.out.cell 0
        have r1 := HZ.out.cell 1
        have r2 := HZ.out.cell 2
        have r3 := HZ.out.cell 3
        have r4 := HZ.out.cell 4
        have f0 := HZ.out.frozen 0
        have f1 := HZ.out.frozen 1
        have f2 := HZ.out.frozen 2
        have f3 := HZ.out.frozen 3
        have f4 := HZ.out.frozen 4
        go_wp2_with fail
        refine bodyPost_ret (v := .agg #[.int .u8 1, .int .i64 l1, .int .i64 z, .slice aR J.length cR, .string ⟨#[]⟩]) (by simp [results, Try.results12, go_sem, *]) rfl ⟨1, l1, z, J, ⟨#[]⟩, aR, cR, rfl, ?_, HRI.out, ?_⟩
        · exact HSL.out.gr (gr5 (Gr.refl [w.heap.size + 1] w6) (.inl (by simp)) _ _ _ _ _) (fun x hx hm => (HJB.out x hx).2 (by simpa using hm))
        · exact gr5 HG.out (b := w.heap.size + 1) (.inr (by simp)) _ _ _ _ _

end Go.Proofs.Ytpkhfdcokcchdab
