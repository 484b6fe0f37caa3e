/-
  TaAj: TrC, TrD, TrE.
-/
import Derived.Test.YtgleopahldpajaaGreatTaAi
import Derived.StillTailTactics

set_option linter.unusedVariables false

/-
  Layer 19 (tree): usable, Find, Up, Len.
-/
namespace Go.Proofs.YtgleopahldpajaaGreat
open Go.RowKit
set_option linter.unusedVariables false
section
variable {w w' : World} {A : TrA} {Z : TrZ} {K : Nat} {g : Int → NdV} {n : Int} {x : NdZ}
set_option maxRecDepth 20000 in
set_option maxHeartbeats 1000000 in
theorem usable_any (h : TrG w A Z K g) (n : Int) (hn : WfZ n) : Calls Tryz.prog 90 #[.pointer (some ⟨A.tb, 0, none⟩), .int .i64 n] w fun e w' => e = .returned (.tuple #[ndVal (pickV g (openE Z.T n) n), .int .i64 (openE Z.T n)]) ∧ Gr [] w w' := by
  have g1 := (Gr.refl [] w).alloc (Obj.cells #[.int .u8 0, .int .i64 0, .int .i64 0, .slice none 0 0, .string ⟨#[]⟩, .pointer none, .int .i64 0, .int .i64 0] 125)
  have HB := Lib.hid (Holds.new w #[.int .u8 0, .int .i64 0, .int .i64 0, .slice none 0 0, .string ⟨#[]⟩, .pointer none, .int .i64 0, .int .i64 0] 125)
  have HN := Lib.hid (dir_any (h.gr0 g1) n hn)
  have HG := Lib.hid g1
  by_cases c : dirE Z.T n = 0
  · obtain ⟨x, hx, hk⟩ : ∃ x, Z.T n = some x ∧ x.k = 2 := by
      unfold dirE at c
      cases q : Z.T n with
      | none => rw [q] at c; cases c
      | some x =>
        rw [q] at c
        by_cases k : x.k = 2
        · exact ⟨x, rfl, k⟩
        · simp [k] at c
    have ho : openE Z.T n = if x.l = 0 then 13 else 0 := by unfold openE; rw [hx]; exact if_pos hk
    obtain ⟨v, hv⟩ : ∃ v, v = g n := ⟨_, rfl⟩
    obtain ⟨_, k2⟩ := pickV_kind h hx
    rw [c, pickV_ok rfl, ← hv] at HN
    rw [← hv] at k2
    by_cases l0 : x.l = 0
    · rw [ho, if_pos l0, pickV_no (by decide)]
      have hv2 : ndVal v = .agg #[.int .u8 v.k, .int .i64 0, .int .i64 v.s, .slice v.ao v.n v.cap, .string v.t, .pointer v.dp, .int .i64 v.up, .int .i64 v.op] := by unfold ndVal; rw [k2, l0]; rfl
      rw [hv2] at HN
      clear ho l0 k2 hv hv2 c hx hk h hn g1
      go_enter Tryz.func90, Tryz.ntmps90
      go_wp2_with fail
      with_reducible refine HN.out.mono ?_
      rintro e w1 ⟨rfl, g2⟩
      have HG2 := Lib.hid (HG.out.next0 g2)
      have HR := Lib.hid ((HB.out.gr0 g2).alloc (Obj.cells #[.int .u8 v.k, .int .i64 0, .int .i64 v.s, .slice v.ao v.n v.cap, .string v.t, .pointer v.dp, .int .i64 v.up, .int .i64 v.op] 125))
      have c0 := HR.out.cell 0
      have f0 := HR.out.frozen 0
      have c1 := HR.out.cell 1
      have f1 := HR.out.frozen 1
      have c2 := HR.out.cell 2
      have f2 := HR.out.frozen 2
      have c3 := HR.out.cell 3
      have f3 := HR.out.frozen 3
      have c4 := HR.out.cell 4
      have f4 := HR.out.frozen 4
      have c5 := HR.out.cell 5
      have f5 := HR.out.frozen 5
      have c6 := HR.out.cell 6
      have f6 := HR.out.frozen 6
      have c7 := HR.out.cell 7
      have f7 := HR.out.frozen 7
      have l1 := g2.size
      rw [World.size_alloc] at l1
      clear g2 HN HG
      go_wp2_with fail
      exact bodyPost_ret (v := .tuple #[.agg #[.int .u8 0, .int .i64 0, .int .i64 0, .slice none 0 0, .string ⟨#[]⟩, .pointer none, .int .i64 0, .int .i64 0], .int .i64 13]) (by simp [results, Tryz.results90, go_sem, *]) rfl ⟨rfl, gr8 (HG2.out.alloc _) (.inr (Nat.le_refl _)) _ _ _ _ _ _ _ _⟩
    · rw [ho, if_neg l0, pickV_ok rfl, ← hv]
      have k3 : (v.l == 0) = false := by rw [k2]; simp; exact l0
      have k4 : ¬ v.l = 0 := by rw [k2]; omega
      clear ho l0 k2 hv c hx hk h hn g1
      go_enter Tryz.func90, Tryz.ntmps90
      go_wp2_with fail
      with_reducible refine HN.out.mono ?_
      rintro e w1 ⟨rfl, g2⟩
      have HG2 := Lib.hid (HG.out.next0 g2)
      have HR := Lib.hid ((HB.out.gr0 g2).alloc (Obj.cells #[.int .u8 v.k, .int .i64 v.l, .int .i64 v.s, .slice v.ao v.n v.cap, .string v.t, .pointer v.dp, .int .i64 v.up, .int .i64 v.op] 125))
      have c0 := HR.out.cell 0
      have f0 := HR.out.frozen 0
      have c1 := HR.out.cell 1
      have f1 := HR.out.frozen 1
      have c2 := HR.out.cell 2
      have f2 := HR.out.frozen 2
      have c3 := HR.out.cell 3
      have f3 := HR.out.frozen 3
      have c4 := HR.out.cell 4
      have f4 := HR.out.frozen 4
      have c5 := HR.out.cell 5
      have f5 := HR.out.frozen 5
      have c6 := HR.out.cell 6
      have f6 := HR.out.frozen 6
      have c7 := HR.out.cell 7
      have f7 := HR.out.frozen 7
      have l1 := g2.size
      rw [World.size_alloc] at l1
      unfold ndVal
      clear g2 HN HG
      go_wp2_with fail
      exact bodyPost_ret (v := .tuple #[.agg #[.int .u8 v.k, .int .i64 v.l, .int .i64 v.s, .slice v.ao v.n v.cap, .string v.t, .pointer v.dp, .int .i64 v.up, .int .i64 v.op], .int .i64 0]) (by simp [results, Tryz.results90, go_sem, *]) rfl ⟨rfl, gr8 (HG2.out.alloc _) (.inr (Nat.le_refl _)) _ _ _ _ _ _ _ _⟩
  · obtain ⟨e, he⟩ : ∃ e, e = dirE Z.T n := ⟨_, rfl⟩
    have ho : openE Z.T n = e := by
      rw [he]
      unfold dirE at c ⊢; unfold openE
      cases q : Z.T n with
      | none => rfl
      | some x =>
        rw [q] at c
        by_cases k : x.k = 2
        · simp [k] at c
        · simp [k]
    rw [← he] at HN c
    rw [ho, pickV_no c]
    rw [pickV_no c] at HN
    have e1 : (e == 0) = false := by simp [c]
    clear he ho h hn g1
    go_enter Tryz.func90, Tryz.ntmps90
    go_wp2_with fail
    with_reducible refine HN.out.mono ?_
    rintro e2 w1 ⟨rfl, g2⟩
    have HG2 := Lib.hid (HG.out.next0 g2)
    have HR := Lib.hid ((HB.out.gr0 g2).alloc (Obj.cells #[.int .u8 0, .int .i64 0, .int .i64 0, .slice none 0 0, .string ⟨#[]⟩, .pointer none, .int .i64 0, .int .i64 0] 125))
    have c0 := HR.out.cell 0
    have f0 := HR.out.frozen 0
    have c1 := HR.out.cell 1
    have f1 := HR.out.frozen 1
    have c2 := HR.out.cell 2
    have f2 := HR.out.frozen 2
    have c3 := HR.out.cell 3
    have f3 := HR.out.frozen 3
    have c4 := HR.out.cell 4
    have f4 := HR.out.frozen 4
    have c5 := HR.out.cell 5
    have f5 := HR.out.frozen 5
    have c6 := HR.out.cell 6
    have f6 := HR.out.frozen 6
    have c7 := HR.out.cell 7
    have f7 := HR.out.frozen 7
    have l1 := g2.size
    rw [World.size_alloc] at l1
    unfold ndVal ndZero
    clear g2 HN HG
    go_wp2_with fail
    exact bodyPost_ret (v := .tuple #[.agg #[.int .u8 0, .int .i64 0, .int .i64 0, .slice none 0 0, .string ⟨#[]⟩, .pointer none, .int .i64 0, .int .i64 0], .int .i64 e]) (by simp [results, Tryz.results90, go_sem, *]) rfl ⟨rfl, gr8 (HG2.out.alloc _) (.inr (Nat.le_refl _)) _ _ _ _ _ _ _ _⟩
set_option maxRecDepth 20000 in
set_option maxHeartbeats 1000000 in
theorem up_any (h : TrG w A Z K g) (n : Int) (hn : WfZ n) : Calls Tryz.prog 28 #[.pointer (some ⟨A.tb, 0, none⟩), .int .i64 n] w fun e w' => e = .returned (.tuple #[.int .i64 (pickV g (openE Z.T n) n).up, .int .i64 (openE Z.T n)]) ∧ Gr [] w w' := by
  have HN := Lib.hid (usable_any h n hn)
  obtain ⟨v, hv⟩ : ∃ v, v = pickV g (openE Z.T n) n := ⟨_, rfl⟩
  obtain ⟨e0, he⟩ : ∃ e, e = openE Z.T n := ⟨_, rfl⟩
  rw [← hv, ← he] at HN ⊢
  clear hv he h hn
  go_enter Tryz.func28, Tryz.ntmps28
  go_wp2_with fail
  with_reducible refine HN.out.mono ?_
  rintro e w1 ⟨rfl, g2⟩
  unfold ndVal
  clear HN
  go_wp2_with fail
  go_ret2
  exact ⟨rfl, g2.alloc _⟩
end
end Go.Proofs.YtgleopahldpajaaGreat

/-
  Layer 19 (tree): Find, vacant, Len.
-/
namespace Go.Proofs.YtgleopahldpajaaGreat
open Go.RowKit
set_option linter.unusedVariables false
/-- What Find tells. -/
def findZ (T : Int → Option NdZ) (nm : List NmZ) (n : Int) (s : ByteArray) : Nat × Int := if dirE T n = 0 then (match lkN nm n s with | some v => (v, 0) | none => (0, 13)) else (0, dirE T n)
/-- May a name be made? -/
def vacE (T : Int → Option NdZ) (nm : List NmZ) (n : Int) (s : ByteArray) : Int := if openE T n = 0 then (if nameP s.data.toList then (if (lkN nm n s).isSome then 14 else 0) else 18) else openE T n
theorem dirE_ok {T : Int → Option NdZ} {n : Int} (c : dirE T n = 0) : ∃ x, T n = some x ∧ x.k = 2 := by
  unfold dirE at c
  cases q : T n with
  | none => rw [q] at c; cases c
  | some x =>
    rw [q] at c
    by_cases k : x.k = 2
    · exact ⟨x, rfl, k⟩
    · simp [k] at c
theorem openE_ok {T : Int → Option NdZ} {n : Int} (c : openE T n = 0) : ∃ x, T n = some x ∧ x.k = 2 ∧ x.l ≠ 0 := by
  unfold openE at c
  cases q : T n with
  | none => rw [q] at c; cases c
  | some x =>
    rw [q] at c
    by_cases k : x.k = 2
    · by_cases l : x.l = 0
      · simp [k, l] at c
      · exact ⟨x, rfl, k, l⟩
    · simp [k] at c
section
variable {w w' : World} {A : TrA} {Z : TrZ} {K : Nat} {g : Int → NdV} {n : Int} {x : NdZ}
set_option maxRecDepth 20000 in
set_option maxHeartbeats 1000000 in
theorem find_any (h : TrG w A Z K g) (n : Int) (hn : WfZ n) (s : ByteArray) (hs : s.size ≤ maxLen) : Calls Tryz.prog 25 #[.pointer (some ⟨A.tb, 0, none⟩), .int .i64 n, .string s] w fun e w' => e = .returned (.tuple #[.int .i64 ((findZ Z.T Z.nm n s).1 : Int), .int .i64 (findZ Z.T Z.nm n s).2]) ∧ Gr [] w w' := by
  have HN := Lib.hid (dir_any h n hn)
  by_cases c : dirE Z.T n = 0
  · obtain ⟨x, hx, hk⟩ := dirE_ok c
    obtain ⟨D, hdp, hD, _⟩ := (h.nd n x hx).dir hk
    obtain ⟨v, hv⟩ : ∃ v, v = g n := ⟨_, rfl⟩
    rw [c, pickV_ok rfl, ← hv] at HN
    rw [← hv] at hdp
    have hv2 : ndVal v = .agg #[.int .u8 v.k, .int .i64 v.l, .int .i64 v.s, .slice v.ao v.n v.cap, .string v.t, .pointer (some ⟨D.db, 0, none⟩), .int .i64 v.up, .int .i64 v.op] := by unfold ndVal; rw [hdp]
    rw [hv2] at HN
    have HD := Lib.hid hD
    have HS := Lib.hid hs
    cases q : lkN Z.nm n s with
    | none =>
      have hf : findZ Z.T Z.nm n s = (0, 13) := by unfold findZ; rw [if_pos c, q]
      rw [hf]
      have HQ := Lib.hid q
      clear hv hv2 hdp hf hx hk hn h hs hD c q
      go_enter Tryz.func25, Tryz.ntmps25
      go_wp2_with fail
      with_reducible refine HN.out.mono ?_
      rintro e w1 ⟨rfl, g2⟩
      have g3 := g2.alloc (Obj.cells #[.int .u8 v.k, .int .i64 v.l, .int .i64 v.s, .slice v.ao v.n v.cap, .string v.t, .pointer (some ⟨D.db, 0, none⟩), .int .i64 v.up, .int .i64 v.op] 125)
      have HG := Lib.hid g3
      have hc := dget_any (HD.out.gr0 g3) s HS.out
      rw [HQ.out] at hc
      have HC := Lib.hid hc
      clear HN g2 g3 hc
      go_wp2_with fail
      with_reducible refine HC.out.mono ?_
      rintro e w2 ⟨rfl, g4⟩
      have HG2 := Lib.hid (HG.out.next0 g4)
      clear g4 HC HG
      go_wp2_with fail
      go_ret2
      exact ⟨rfl, HG2.out⟩
    | some u =>
      have hf : findZ Z.T Z.nm n s = (u, 0) := by unfold findZ; rw [if_pos c, q]
      rw [hf]
      have HQ := Lib.hid q
      clear hv hv2 hdp hf hx hk hn h hs hD c q
      go_enter Tryz.func25, Tryz.ntmps25
      go_wp2_with fail
      with_reducible refine HN.out.mono ?_
      rintro e w1 ⟨rfl, g2⟩
      have g3 := g2.alloc (Obj.cells #[.int .u8 v.k, .int .i64 v.l, .int .i64 v.s, .slice v.ao v.n v.cap, .string v.t, .pointer (some ⟨D.db, 0, none⟩), .int .i64 v.up, .int .i64 v.op] 125)
      have HG := Lib.hid g3
      have hc := dget_any (HD.out.gr0 g3) s HS.out
      rw [HQ.out] at hc
      have HC := Lib.hid hc
      clear HN g2 g3 hc
      go_wp2_with fail
      with_reducible refine HC.out.mono ?_
      rintro e w2 ⟨rfl, g4⟩
      have HG2 := Lib.hid (HG.out.next0 g4)
      clear g4 HC HG
      go_wp2_with fail
      go_ret2
      exact ⟨rfl, HG2.out⟩
  · have hf : findZ Z.T Z.nm n s = (0, dirE Z.T n) := by unfold findZ; rw [if_neg c]
    obtain ⟨e0, he⟩ : ∃ e, e = dirE Z.T n := ⟨_, rfl⟩
    rw [hf]
    rw [← he] at HN c ⊢
    rw [pickV_no c] at HN
    have k1 : (e0 == 0) = false := by simp [c]
    have k2 : (e0 != 0) = true := by simp [c]
    clear he hf h hn hs
    go_enter Tryz.func25, Tryz.ntmps25
    go_wp2_with fail
    with_reducible refine HN.out.mono ?_
    rintro e w1 ⟨rfl, g2⟩
    have HG := Lib.hid (g2.alloc (Obj.cells #[.int .u8 0, .int .i64 0, .int .i64 0, .slice none 0 0, .string ⟨#[]⟩, .pointer none, .int .i64 0, .int .i64 0] 125))
    unfold ndVal ndZero
    clear HN g2
    go_wp2_with fail
    go_ret2
    exact ⟨rfl, HG.out⟩
set_option maxRecDepth 20000 in
set_option maxHeartbeats 1000000 in
theorem vacant_any (h : TrG w A Z K g) (n : Int) (hn : WfZ n) (s : ByteArray) (hs : s.size ≤ maxLen) : Calls Tryz.prog 63 #[.pointer (some ⟨A.tb, 0, none⟩), .int .i64 n, .string s] w fun e w' => e = .returned (.tuple #[ndVal (pickV g (vacE Z.T Z.nm n s) n), .int .i64 (vacE Z.T Z.nm n s)]) ∧ Gr [] w w' := by
  have g1 := (Gr.refl [] w).alloc (Obj.cells #[.int .u8 0, .int .i64 0, .int .i64 0, .slice none 0 0, .string ⟨#[]⟩, .pointer none, .int .i64 0, .int .i64 0] 125)
  have HB := Lib.hid (Holds.new w #[.int .u8 0, .int .i64 0, .int .i64 0, .slice none 0 0, .string ⟨#[]⟩, .pointer none, .int .i64 0, .int .i64 0] 125)
  have HN := Lib.hid (usable_any (h.gr0 g1) n hn)
  have HG := Lib.hid g1
  by_cases c : openE Z.T n = 0
  · obtain ⟨x, hx, hk, _⟩ := openE_ok c
    obtain ⟨D, hdp, hD, _⟩ := (h.nd n x hx).dir hk
    obtain ⟨v, hv⟩ : ∃ v, v = g n := ⟨_, rfl⟩
    rw [c, pickV_ok rfl, ← hv] at HN
    rw [← hv] at hdp
    have hv2 : ndVal v = .agg #[.int .u8 v.k, .int .i64 v.l, .int .i64 v.s, .slice v.ao v.n v.cap, .string v.t, .pointer (some ⟨D.db, 0, none⟩), .int .i64 v.up, .int .i64 v.op] := by unfold ndVal; rw [hdp]
    rw [hv2] at HN
    have HD := Lib.hid (hD.gr0 g1)
    have HS := Lib.hid hs
    have HM := Lib.hid (fun W => dname_str s W)
    by_cases np : nameP s.data.toList = true
    · have e : nmE s.data.toList = 0 := by unfold nmE; rw [np]; rfl
      rw [e] at HM
      cases q : lkN Z.nm n s with
      | some u =>
        have hf : vacE Z.T Z.nm n s = 14 := by unfold vacE; rw [if_pos c, if_pos np, q]; rfl
        rw [hf, pickV_no (by decide)]
        have HQ := Lib.hid q
        clear hv hv2 hdp hf hx hk hn h hs hD c q e np g1
        go_enter Tryz.func63, Tryz.ntmps63
        go_wp2_with fail
        with_reducible refine HN.out.mono ?_
        rintro e w1 ⟨rfl, g2⟩
        have HG2 := Lib.hid (HG.out.next0 g2)
        have HR := Lib.hid ((HB.out.gr0 g2).alloc (Obj.cells #[.int .u8 v.k, .int .i64 v.l, .int .i64 v.s, .slice v.ao v.n v.cap, .string v.t, .pointer (some ⟨D.db, 0, none⟩), .int .i64 v.up, .int .i64 v.op] 125))
        have HD1 := Lib.hid ((HD.out.gr0 g2).gr0 ((Gr.refl [] w1).alloc (Obj.cells #[.int .u8 v.k, .int .i64 v.l, .int .i64 v.s, .slice v.ao v.n v.cap, .string v.t, .pointer (some ⟨D.db, 0, none⟩), .int .i64 v.up, .int .i64 v.op] 125)))
        have hx := Holds.new w1 #[.int .u8 v.k, .int .i64 v.l, .int .i64 v.s, .slice v.ao v.n v.cap, .string v.t, .pointer (some ⟨D.db, 0, none⟩), .int .i64 v.up, .int .i64 v.op] 125
        have HX := Lib.hid hx
        have l1 := g2.size
        rw [World.size_alloc] at l1
        clear g2 HN HG hx HD
        go_wp2_with fail
        with_reducible refine (HM.out _).mono ?_
        rintro e w2 ⟨rfl, b2⟩
        have g3 := Gr.ofBelow (cs := []) b2
        have HR2 := Lib.hid (HR.out.gr0 g3)
        have HD2 := Lib.hid (HD1.out.gr0 g3)
        have HX2 := Lib.hid (HX.out.gr0 g3)
        have HG3 := Lib.hid ((HG2.out.alloc _).next0 g3)
        have l2 := g3.size
        rw [World.size_alloc] at l2
        have p5 := HX2.out.cell 5
        have hc := dget_any HD2.out s HS.out
        rw [HQ.out] at hc
        have HC := Lib.hid hc
        clear g3 b2 HM hc HD1
        go_wp2_with fail
        with_reducible refine HC.out.mono ?_
        rintro e w3 ⟨rfl, g4⟩
        have HR3 := Lib.hid (HR2.out.gr0 g4)
        have HX3 := Lib.hid (HX2.out.gr0 g4)
        have HG4 := Lib.hid (HG3.out.next0 g4)
        have l3 := g4.size
        have c0 := HR3.out.cell 0
        have f0 := HR3.out.frozen 0
        have c1 := HR3.out.cell 1
        have f1 := HR3.out.frozen 1
        have c2 := HR3.out.cell 2
        have f2 := HR3.out.frozen 2
        have c3 := HR3.out.cell 3
        have f3 := HR3.out.frozen 3
        have c4 := HR3.out.cell 4
        have f4 := HR3.out.frozen 4
        have c5 := HR3.out.cell 5
        have f5 := HR3.out.frozen 5
        have c6 := HR3.out.cell 6
        have f6 := HR3.out.frozen 6
        have c7 := HR3.out.cell 7
        have f7 := HR3.out.frozen 7
        have d0 := HX3.out.cell 0
        have d1 := HX3.out.cell 1
        have d2 := HX3.out.cell 2
        have d3 := HX3.out.cell 3
        have d4 := HX3.out.cell 4
        have d5 := HX3.out.cell 5
        have d6 := HX3.out.cell 6
        have d7 := HX3.out.cell 7
        clear g4 HC p5
        go_wp2_with fail
        exact bodyPost_ret (v := .tuple #[.agg #[.int .u8 0, .int .i64 0, .int .i64 0, .slice none 0 0, .string ⟨#[]⟩, .pointer none, .int .i64 0, .int .i64 0], .int .i64 14]) (by simp [results, Tryz.results63, go_sem, *]) rfl ⟨rfl, gr8 (HG4.out) (.inr (Nat.le_refl _)) _ _ _ _ _ _ _ _⟩
      | none =>
        have hf : vacE Z.T Z.nm n s = 0 := by unfold vacE; rw [if_pos c, if_pos np, q]; rfl
        rw [hf, pickV_ok rfl, ← hv, hv2]
        have HQ := Lib.hid q
        clear hv hv2 hdp hf hx hk hn h hs hD c q e np g1
        go_enter Tryz.func63, Tryz.ntmps63
        go_wp2_with fail
        with_reducible refine HN.out.mono ?_
        rintro e w1 ⟨rfl, g2⟩
        have HG2 := Lib.hid (HG.out.next0 g2)
        have HR := Lib.hid ((HB.out.gr0 g2).alloc (Obj.cells #[.int .u8 v.k, .int .i64 v.l, .int .i64 v.s, .slice v.ao v.n v.cap, .string v.t, .pointer (some ⟨D.db, 0, none⟩), .int .i64 v.up, .int .i64 v.op] 125))
        have HD1 := Lib.hid ((HD.out.gr0 g2).gr0 ((Gr.refl [] w1).alloc (Obj.cells #[.int .u8 v.k, .int .i64 v.l, .int .i64 v.s, .slice v.ao v.n v.cap, .string v.t, .pointer (some ⟨D.db, 0, none⟩), .int .i64 v.up, .int .i64 v.op] 125)))
        have hx := Holds.new w1 #[.int .u8 v.k, .int .i64 v.l, .int .i64 v.s, .slice v.ao v.n v.cap, .string v.t, .pointer (some ⟨D.db, 0, none⟩), .int .i64 v.up, .int .i64 v.op] 125
        have HX := Lib.hid hx
        have l1 := g2.size
        rw [World.size_alloc] at l1
        clear g2 HN HG hx HD
        go_wp2_with fail
        with_reducible refine (HM.out _).mono ?_
        rintro e w2 ⟨rfl, b2⟩
        have g3 := Gr.ofBelow (cs := []) b2
        have HR2 := Lib.hid (HR.out.gr0 g3)
        have HD2 := Lib.hid (HD1.out.gr0 g3)
        have HX2 := Lib.hid (HX.out.gr0 g3)
        have HG3 := Lib.hid ((HG2.out.alloc _).next0 g3)
        have l2 := g3.size
        rw [World.size_alloc] at l2
        have p5 := HX2.out.cell 5
        have hc := dget_any HD2.out s HS.out
        rw [HQ.out] at hc
        have HC := Lib.hid hc
        clear g3 b2 HM hc HD1
        go_wp2_with fail
        with_reducible refine HC.out.mono ?_
        rintro e w3 ⟨rfl, g4⟩
        have HR3 := Lib.hid (HR2.out.gr0 g4)
        have HX3 := Lib.hid (HX2.out.gr0 g4)
        have HG4 := Lib.hid (HG3.out.next0 g4)
        have l3 := g4.size
        have c0 := HR3.out.cell 0
        have f0 := HR3.out.frozen 0
        have c1 := HR3.out.cell 1
        have f1 := HR3.out.frozen 1
        have c2 := HR3.out.cell 2
        have f2 := HR3.out.frozen 2
        have c3 := HR3.out.cell 3
        have f3 := HR3.out.frozen 3
        have c4 := HR3.out.cell 4
        have f4 := HR3.out.frozen 4
        have c5 := HR3.out.cell 5
        have f5 := HR3.out.frozen 5
        have c6 := HR3.out.cell 6
        have f6 := HR3.out.frozen 6
        have c7 := HR3.out.cell 7
        have f7 := HR3.out.frozen 7
        have d0 := HX3.out.cell 0
        have d1 := HX3.out.cell 1
        have d2 := HX3.out.cell 2
        have d3 := HX3.out.cell 3
        have d4 := HX3.out.cell 4
        have d5 := HX3.out.cell 5
        have d6 := HX3.out.cell 6
        have d7 := HX3.out.cell 7
        clear g4 HC p5
        go_wp2_with fail
        exact bodyPost_ret (v := .tuple #[.agg #[.int .u8 v.k, .int .i64 v.l, .int .i64 v.s, .slice v.ao v.n v.cap, .string v.t, .pointer (some ⟨D.db, 0, none⟩), .int .i64 v.up, .int .i64 v.op], .int .i64 0]) (by simp [results, Tryz.results63, go_sem, *]) rfl ⟨rfl, gr8 (HG4.out) (.inr (Nat.le_refl _)) _ _ _ _ _ _ _ _⟩
    · have e : nmE s.data.toList = 18 := by unfold nmE; rw [Bool.not_eq_true] at np; rw [np]; rfl
      rw [e] at HM
      have hf : vacE Z.T Z.nm n s = 18 := by unfold vacE; rw [if_pos c, if_neg np]
      rw [hf, pickV_no (by decide)]
      clear hv hv2 hdp hf hx hk hn h hs hD c e np g1 HD
      go_enter Tryz.func63, Tryz.ntmps63
      go_wp2_with fail
      with_reducible refine HN.out.mono ?_
      rintro e w1 ⟨rfl, g2⟩
      have HG2 := Lib.hid (HG.out.next0 g2)
      have HR := Lib.hid ((HB.out.gr0 g2).alloc (Obj.cells #[.int .u8 v.k, .int .i64 v.l, .int .i64 v.s, .slice v.ao v.n v.cap, .string v.t, .pointer (some ⟨D.db, 0, none⟩), .int .i64 v.up, .int .i64 v.op] 125))
      have l1 := g2.size
      rw [World.size_alloc] at l1
      clear g2 HN HG
      go_wp2_with fail
      with_reducible refine (HM.out _).mono ?_
      rintro e w2 ⟨rfl, b2⟩
      have g3 := Gr.ofBelow (cs := []) b2
      have HR2 := Lib.hid (HR.out.gr0 g3)
      have HG3 := Lib.hid ((HG2.out.alloc _).next0 g3)
      have l2 := g3.size
      rw [World.size_alloc] at l2
      have c0 := HR2.out.cell 0
      have f0 := HR2.out.frozen 0
      have c1 := HR2.out.cell 1
      have f1 := HR2.out.frozen 1
      have c2 := HR2.out.cell 2
      have f2 := HR2.out.frozen 2
      have c3 := HR2.out.cell 3
      have f3 := HR2.out.frozen 3
      have c4 := HR2.out.cell 4
      have f4 := HR2.out.frozen 4
      have c5 := HR2.out.cell 5
      have f5 := HR2.out.frozen 5
      have c6 := HR2.out.cell 6
      have f6 := HR2.out.frozen 6
      have c7 := HR2.out.cell 7
      have f7 := HR2.out.frozen 7
      clear g3 b2 HM
      go_wp2_with fail
      exact bodyPost_ret (v := .tuple #[.agg #[.int .u8 0, .int .i64 0, .int .i64 0, .slice none 0 0, .string ⟨#[]⟩, .pointer none, .int .i64 0, .int .i64 0], .int .i64 18]) (by simp [results, Tryz.results63, go_sem, *]) rfl ⟨rfl, gr8 (HG3.out) (.inr (Nat.le_refl _)) _ _ _ _ _ _ _ _⟩
  · obtain ⟨e0, he⟩ : ∃ e, e = openE Z.T n := ⟨_, rfl⟩
    have hf : vacE Z.T Z.nm n s = e0 := by unfold vacE; rw [if_neg c, he]
    rw [← he] at HN c
    rw [hf, pickV_no c]
    rw [pickV_no c] at HN
    have k1 : (e0 == 0) = false := by simp [c]
    have k2 : (e0 != 0) = true := by simp [c]
    clear he hf h hn g1
    go_enter Tryz.func63, Tryz.ntmps63
    go_wp2_with fail
    with_reducible refine HN.out.mono ?_
    rintro e2 w1 ⟨rfl, g2⟩
    have HG2 := Lib.hid (HG.out.next0 g2)
    have HR := Lib.hid ((HB.out.gr0 g2).alloc (Obj.cells #[.int .u8 0, .int .i64 0, .int .i64 0, .slice none 0 0, .string ⟨#[]⟩, .pointer none, .int .i64 0, .int .i64 0] 125))
    have c0 := HR.out.cell 0
    have f0 := HR.out.frozen 0
    have c1 := HR.out.cell 1
    have f1 := HR.out.frozen 1
    have c2 := HR.out.cell 2
    have f2 := HR.out.frozen 2
    have c3 := HR.out.cell 3
    have f3 := HR.out.frozen 3
    have c4 := HR.out.cell 4
    have f4 := HR.out.frozen 4
    have c5 := HR.out.cell 5
    have f5 := HR.out.frozen 5
    have c6 := HR.out.cell 6
    have f6 := HR.out.frozen 6
    have c7 := HR.out.cell 7
    have f7 := HR.out.frozen 7
    have l1 := g2.size
    rw [World.size_alloc] at l1
    unfold ndVal ndZero
    clear g2 HN HG
    go_wp2_with fail
    exact bodyPost_ret (v := .tuple #[.agg #[.int .u8 0, .int .i64 0, .int .i64 0, .slice none 0 0, .string ⟨#[]⟩, .pointer none, .int .i64 0, .int .i64 0], .int .i64 e0]) (by simp [results, Tryz.results63, go_sem, *]) rfl ⟨rfl, gr8 (HG2.out.alloc _) (.inr (Nat.le_refl _)) _ _ _ _ _ _ _ _⟩
end
/-! ### How many inodes -/
def numsZ (T : Int → Option NdZ) : List Int := ((List.range 1025).map fun (i : Nat) => (i : Int)).filter fun i => (T i).isSome
def lenZ (T : Int → Option NdZ) : Nat := (numsZ T).length
theorem mem_numsZ {T : Int → Option NdZ} (h : ∀ n x, T n = some x → 1 ≤ n ∧ n ≤ 1024) (n : Int) : n ∈ numsZ T ↔ (T n).isSome = true := by
  unfold numsZ
  rw [List.mem_filter, List.mem_map]
  constructor
  · exact fun q => q.2
  · intro q
    obtain ⟨x, hx⟩ := Option.isSome_iff_exists.1 q
    have := h n x hx
    exact ⟨⟨n.toNat, List.mem_range.2 (by omega), by omega⟩, q⟩
theorem numsZ_up (T : Int → Option NdZ) : (numsZ T).Pairwise (· < ·) := by
  unfold numsZ
  refine List.Pairwise.filter _ ?_
  rw [List.pairwise_map]
  exact List.pairwise_lt_range.imp fun h => by omega
theorem numsZ_nd (T : Int → Option NdZ) : (numsZ T).Nodup := (numsZ_up T).imp fun h => by omega
section
variable {w w' : World} {A : TrA} {Z : TrZ} {K : Nat} {g : Int → NdV} {n : Int} {x : NdZ}
theorem TrG.keys (h : TrG w A Z K g) (ok : TrO Z.T Z.nm) : ∃ L : List Int, L.Perm (numsZ Z.T) ∧ ∀ ty, (Builtin.len_ #[126] ty #[.map (some A.nb)]).run Tryz.prog w = .ok (.int .i64 (lenZ Z.T : Int)) w := by
  obtain ⟨L, h1, h2, h3⟩ := h.nodes.keys undInt19 undNodes
  have hp : L.Perm (numsZ Z.T) := by
    refine (List.perm_ext_iff_of_nodup h1 (numsZ_nd _)).2 fun x => ?_
    rw [h2, mem_numsZ ok.rng]
    have e : (gT g Z.T x).isSome = (Z.T x).isSome := by unfold gT; simp
    rw [e]
    refine ⟨fun q => q.2, fun q => ⟨?_, q⟩⟩
    obtain ⟨y, hy⟩ := Option.isSome_iff_exists.1 q
    have := ok.rng x y hy
    exact wfZ (by omega) (by omega)
  refine ⟨L, hp, fun ty => ?_⟩
  rw [h3 ty, hp.length_eq]
  rfl
set_option maxRecDepth 20000 in
theorem len_nil (w : World) : Calls Tryz.prog 33 #[.pointer none] w fun e w' => e = .returned (.int .i64 0) ∧ w' = w := by
  go_enter Tryz.func33, Tryz.ntmps33
  go_wp2_with fail
  go_ret
  exact ⟨rfl, rfl⟩
set_option maxRecDepth 20000 in
theorem tlen_any (h : TrG w A Z K g) (ok : TrO Z.T Z.nm) : Calls Tryz.prog 33 #[.pointer (some ⟨A.tb, 0, none⟩)] w fun e w' => e = .returned (.int .i64 (lenZ Z.T : Int)) ∧ w' = w := by
  obtain ⟨L, _, hl⟩ := h.keys ok
  have c0 := h.hd.cell 0
  clear h
  go_enter Tryz.func33, Tryz.ntmps33
  go_wp2_with fail
  go_ret
  exact ⟨rfl, rfl⟩
end
end Go.Proofs.YtgleopahldpajaaGreat

/-
  Layer 19 (tree): New; an inode is put; its links are changed; a name is made, and dropped.
-/
namespace Go.Proofs.YtgleopahldpajaaGreat
open Go.RowKit
set_option linter.unusedVariables false
def updG (g : Int → NdV) (n : Int) (v : NdV) : Int → NdV := fun z => if z = n then v else g z
def setN (f : Int → Bool) (n : Int) : Int → Bool := fun z => decide (z = n) || f z
theorem updG_same (g : Int → NdV) (n : Int) (v : NdV) : updG g n v n = v := if_pos rfl
theorem updG_far {g : Int → NdV} {n m : Int} {v : NdV} (h : m ≠ n) : updG g n v m = g m := if_neg h
theorem gT_upd (g : Int → NdV) (T : Int → Option NdZ) (n : Int) (v : NdV) (x : NdZ) : gT (updG g n v) (updN T n (some x)) = updZ (gT g T) n (some v) := by
  funext z
  unfold gT updZ updG updN
  by_cases h : z = n <;> simp [h]
theorem sn_upd (f : Int → Bool) (n : Int) : (fun z => if setN f n z then some () else none) = updZ (fun z => if f z then some () else none) n (some ()) := by
  funext z
  unfold setN updZ
  by_cases h : z = n <;> simp [h]
theorem MapZ.put_run {P : Program} {k e t : TypeId} {α : Type} {E : EltLaw P e α} {w : World} {b n : Nat} {f : Int → Option α} (h : MapZ E k w b n f) (hn : n < maxLen) (hk : P.underlying k = some (.int .i64)) (ht : P.underlying t = some (.map k e)) {z : Int} (hz : WfZ z) (c : α) :
    ∃ w', (Instr.mapUpdate t (.map (some b)) (.int .i64 z) (E.val c)).run P w = .ok () w' ∧ MapZ E k w' b (n + 1) (updZ f z (some c)) ∧ Gr [b] w w' ∧ w'.heap.size = w.heap.size := by
  obtain ⟨D, h, q⟩ := h
  obtain ⟨w', hrun, r1, r2⟩ := h.store (Maps.int_keyed hk) ht hn (Maps.keyOf_int_mk hk hz) (E.R_mk c)
  have hs : w'.heap.size = w.heap.size := by
    obtain ⟨es, cl, es', cl', _, rfl⟩ := r2
    simp [ChangeMaps.setBlock]
  exact ⟨w', hrun, ⟨_, r1, q.put h.isMap z c⟩, Gr.ofGrown r2.grown, hs⟩
/-- The tree in which an inode is another one. -/
def TrZ.putN (Z : TrZ) (n : Int) (x : NdZ) : TrZ := { Z with T := updN Z.T n (some x), sn := setN Z.sn n }
/-- As before, without a note. -/
def TrZ.keepN (Z : TrZ) (n : Int) (x : NdZ) : TrZ := { Z with T := updN Z.T n (some x) }
section
variable {w w' w2 : World} {A : TrA} {Z : TrZ} {K : Nat} {g : Int → NdV} {n : Int} {x : NdZ} {v : NdV}
theorem own_mem {A : TrA} : ∀ b ∈ [A.nb, A.ib], b ∈ A.own := fun b hb => by
  rcases List.mem_cons.1 hb with rfl | hb
  · simp [TrA.own]
  · rw [List.mem_singleton] at hb; subst hb; simp [TrA.own]
theorem TrG.put_keep (h : TrG w A Z K g) (q : Gr [A.nb] w w2) (hm : MapZ ndE 3 w2 A.nb (K + 1) (updZ (gT g Z.T) n (some v))) (hv : NdIs w A.own Z.nm K n v x) :
    TrG w2 A (Z.keepN n x) (K + 1) (updG g n v) := by
  have sub : ∀ b ∈ [A.nb], b ∈ A.own := fun b hb => own_mem b (List.mem_cons.2 (.inl (List.mem_singleton.1 hb)))
  refine ⟨h.hd.gr q fun e => h.tn (sub _ e), by rw [show gT (updG g n v) (Z.keepN n x).T = _ from gT_upd g Z.T n v x]; exact hm, fun m y hy => ?_, (h.inodes.mono (by omega)).gr q (by rw [List.mem_singleton]; exact fun e => h.ne.1 e.symm), (h.spots.mono (by omega)).gr q (by rw [List.mem_singleton]; exact fun e => h.ne.2.1 e.symm), h.ne, h.tn, Nat.le_succ_of_le h.len⟩
  rcases upd_cases hy with ⟨rfl, rfl⟩ | ⟨e, hy⟩
  · rw [updG_same]; exact (hv.mono (by omega)).gr q sub
  · rw [updG_far e]; exact ((h.nd m y hy).mono (by omega)).gr q sub
theorem TrG.put_fin (h : TrG w A Z K g) (q : Gr [A.nb, A.ib] w w2) (hm : MapZ ndE 3 w2 A.nb (K + 1) (updZ (gT g Z.T) n (some v))) (hi : MapZ setE 3 w2 A.ib (K + 1) (updZ (fun z => if Z.sn z then some () else none) n (some ())))
    (hv : NdIs w A.own Z.nm K n v x) : TrG w2 A (Z.putN n x) (K + 1) (updG g n v) := by
  refine ⟨h.hd.gr q fun e => h.tn (own_mem _ e), by rw [show gT (updG g n v) (Z.putN n x).T = _ from gT_upd g Z.T n v x]; exact hm, fun m y hy => ?_, by rw [show (fun z => if (Z.putN n x).sn z then some () else none) = _ from sn_upd Z.sn n]; exact hi, (h.spots.mono (by omega)).gr q ?_, h.ne, h.tn, Nat.le_succ_of_le h.len⟩
  · rcases upd_cases hy with ⟨rfl, rfl⟩ | ⟨e, hy⟩
    · rw [updG_same]; exact (hv.mono (by omega)).gr q own_mem
    · rw [updG_far e]; exact ((h.nd m y hy).mono (by omega)).gr q own_mem
  · intro e
    rcases List.mem_cons.1 e with e | e
    · exact h.ne.2.1 e.symm
    · exact h.ne.2.2 (List.mem_singleton.1 e).symm
set_option maxRecDepth 20000 in
set_option maxHeartbeats 2000000 in
theorem put_any19 (h : TrG w A Z K g) (n : Int) (hn : WfZ n) (v : NdV) (x : NdZ) (hv : NdIs w A.own Z.nm K n v x) (hK : K ≤ 100000) : Calls Tryz.prog 66 #[.pointer (some ⟨A.tb, 0, none⟩), .int .i64 n, ndVal v] w fun e w' => e = .returned (.tuple #[]) ∧ TrG w' A (Z.putN n x) (K + 1) (updG g n v) ∧ Gr A.own w w' := by
  obtain ⟨w1, hw1⟩ : ∃ w1, w1 = w.alloc (Obj.cells #[.int .u8 v.k, .int .i64 v.l, .int .i64 v.s, .slice v.ao v.n v.cap, .string v.t, .pointer v.dp, .int .i64 v.up, .int .i64 v.op] 125) := ⟨_, rfl⟩
  have g1 : Gr [] w w1 := hw1 ▸ (Gr.refl [] w).alloc _
  have HX := Holds.new w #[.int .u8 v.k, .int .i64 v.l, .int .i64 v.s, .slice v.ao v.n v.cap, .string v.t, .pointer v.dp, .int .i64 v.up, .int .i64 v.op] 125
  rw [← hw1] at HX
  have HG := Lib.hid g1
  have h1 := h.gr0 g1
  have HH := Lib.hid h1
  have HV := Lib.hid (hv.gr g1 (by simp))
  have HW := Lib.hid hn
  have c0 := h1.hd.cell 0
  have c1 := h1.hd.cell 1
  have d0 := HX.cell 0
  have d1 := HX.cell 1
  have d2 := HX.cell 2
  have d3 := HX.cell 3
  have d4 := HX.cell 4
  have d5 := HX.cell 5
  have d6 := HX.cell 6
  have d7 := HX.cell 7
  have HAL := Lib.hid hw1.symm
  unfold ndVal
  obtain ⟨b, hb⟩ : ∃ b, b = w.heap.size := ⟨_, rfl⟩
  rw [← hb] at d0 d1 d2 d3 d4 d5 d6 d7
  have HBB := Lib.hid hb.symm
  clear h h1 hv hn g1 hw1 HX hb
  go_enter Tryz.func66, Tryz.ntmps66
  go_upto_region 1 with fail
  rw [HAL.out, HBB.out]
  clear HAL HBB
  go_still_tail 6, (by kernel_rfl)
  have HB := Lib.hid (HH.out.nodes.gr0 ((Gr.refl [] w1).drew))
  go_wp2_with (first
    | (at_mapUpdate; refine wp_putZ rfl _ _ _ rfl rfl HB.out (by unfold maxLen; omega) undInt19 undNodes n rfl HW.out v rfl ?_; intro w2 hm hg hs
       have e1 := (((HH.out.hd.gr0 ((Gr.refl [] w1).drew)).gr hg (by rw [List.mem_singleton]; exact fun e => HH.out.tn (own_mem _ (by rw [e]; simp)))).cell 1)
       have HI := Lib.hid (((HH.out.inodes.gr0 ((Gr.refl [] w1).drew)).gr hg (by rw [List.mem_singleton]; exact fun e => HH.out.ne.1 e.symm)))
       have HM2 := Lib.hid hm
       have HG2 := Lib.hid (((Gr.refl [A.nb] w1).drew).trans hg))
    | (at_mapUpdate; refine wp_putZ rfl _ _ _ rfl rfl HI.out (by unfold maxLen; omega) undInt19 undInodes n rfl HW.out () rfl ?_; intro w3 hm3 hg3 hs3))
  have HG3 := Lib.hid ((HG2.out.mono (cs := [A.nb, A.ib]) (fun b hb => List.mem_cons.2 (.inl (List.mem_singleton.1 hb)))).trans (Gr.mono hg3 (fun b hb => List.mem_cons_of_mem _ hb)))
  have HF := Lib.hid (HH.out.put_fin HG3.out (HM2.out.gr hg3 (by rw [List.mem_singleton]; exact HH.out.ne.1)) hm3 HV.out)
  go_returns
  exact ⟨rfl, HF.out, (HG.out.of0.trans (HG3.out.mono own_mem))⟩
end
end Go.Proofs.YtgleopahldpajaaGreat
