/-
  TaAs: TrY, Frame.
-/
import Derived.Test.YtgleopahldpajaaGreatTaAr
import Derived.Test.YtgleopahldpajaaGreatRows
import Derived.WalkKit
import Derived.ProofKit
import Derived.OpenShut
import Derived.SizedLaws

set_option linter.unusedVariables false

/-
  Layer 19 (tree): TreeNone's walk.
-/
set_option linter.unusedSimpArgs false
namespace Go.Proofs.YtgleopahldpajaaGreat
open Go.RowKit Go.Shelf
set_option linter.unusedVariables false
set_option maxRecDepth 20000 in
set_option maxHeartbeats 2000000 in
theorem inode_nil19 (n : Int) (w : World) : Calls Tryz.prog 23 #[.pointer none, .int .i64 n] w fun e w' => ∃ v : NdV, ∃ ao2 cap2, e = .returned (.tuple #[.agg #[.int .u8 v.k, .int .i64 v.l, .int .i64 v.s, .slice ao2 v.n cap2, .string v.t], .int .i64 1]) ∧ Gr [] w w' := by
  have g1 : Gr [] w (w.alloc (Obj.cells #[.int .u8 0, .int .i64 0, .int .i64 0, .slice none 0 0, .string ⟨#[]⟩] 42)) := (Gr.refl [] w).alloc _
  obtain ⟨v, hv⟩ : ∃ v, v = ndZero := ⟨_, rfl⟩
  have hh := node_nil n (w.alloc (Obj.cells #[.int .u8 0, .int .i64 0, .int .i64 0, .slice none 0 0, .string ⟨#[]⟩] 42))
  rw [← hv] at hh
  have HN := Lib.hid hh
  have HB := Lib.hid (show ([] : List (Int × Int)).length ≤ 70000 ∧ Sl2 (w.alloc (Obj.cells #[.int .u8 0, .int .i64 0, .int .i64 0, .slice none 0 0, .string ⟨#[]⟩] 42)) (.slice v.ao v.n v.cap) [] from ⟨by simp, by rw [hv]; exact Sl2.nil _⟩)
  have HR := Lib.hid (Holds.new w #[.int .u8 0, .int .i64 0, .int .i64 0, .slice none 0 0, .string ⟨#[]⟩] 42)
  have HG := Lib.hid g1
  obtain ⟨e0, he0⟩ : ∃ e : Int, e = 1 := ⟨_, rfl⟩
  rw [← he0] at HN ⊢
  obtain ⟨b, hb⟩ : ∃ b : List (Int × Int), b = [] := ⟨_, rfl⟩
  rw [← hb] at HB
  clear hv g1 hh he0 hb
  go_enter Tryz.func23, Tryz.ntmps23
  go_wp2_with fail
  with_reducible refine HN.out.mono ?_
  rintro e w1 ⟨rfl, g2⟩
  have g3 := g2.alloc (Obj.cells #[.int .u8 v.k, .int .i64 v.l, .int .i64 v.s, .slice v.ao v.n v.cap, .string v.t, .pointer v.dp, .int .i64 v.up, .int .i64 v.op] 125)
  have HT := Lib.hid (told_any v b _ (HB.out.2.gr0 g3) HB.out.1)
  have HR3 := Lib.hid (HR.out.gr0 g3)
  have HG3 := Lib.hid (HG.out.next0 g3)
  have l1 := g2.size
  rw [World.size_alloc] at l1
  unfold ndVal at HT ⊢
  clear g2 g3 HN HB
  go_wp2_with fail
  with_reducible refine HT.out.mono ?_
  rintro e w2 ⟨ao2, cap2, rfl, g4⟩
  have h2 := HR3.out.gr0 g4
  have c0 := h2.cell 0
  have f0 := h2.frozen 0
  have c1 := h2.cell 1
  have f1 := h2.frozen 1
  have c2 := h2.cell 2
  have f2 := h2.frozen 2
  have c3 := h2.cell 3
  have f3 := h2.frozen 3
  have c4 := h2.cell 4
  have f4 := h2.frozen 4
  have HG4 := Lib.hid (HG3.out.next0 g4)
  clear g4 h2 HT
  go_wp2_with fail
  exact bodyPost_ret (v := .tuple #[.agg #[.int .u8 v.k, .int .i64 v.l, .int .i64 v.s, .slice ao2 v.n cap2, .string v.t], .int .i64 e0]) (by simp [results, Tryz.results23, go_sem, *]) rfl ⟨v, ao2, cap2, rfl, gr5t HG4.out (.inr (Nat.le_refl _)) _ _ _ _ _⟩

theorem newZ_len : lenZ newZ.T = 1 := by
  have hp : (numsZ newZ.T).Perm [1] := (List.perm_ext_iff_of_nodup (numsZ_nd _) (by decide)).2 fun z => by
    rw [mem_numsZ (newZ_ok (right_dir 2 (by omega))).rng, newZ_T]
    by_cases h1 : z = 1
    · simp [h1]
    · simp [h1]
  unfold lenZ
  rw [hp.length_eq]; rfl
set_option maxRecDepth 100000 in
set_option maxHeartbeats 8000000 in
theorem walk_TreeNone (n : Int) (s : ByteArray) (hn : (Lit.int .i64 n).wf = true) (hs : s.size ≤ maxLen) (_ : s.size ≤ reachBytes) (w0 : World) : Calls Tryz.prog 5 #[.int .i64 n, .string s] w0 fun e w' => e = .returned (.bool true) ∧ Below w0.heap.size w0 w' := by
  have HG := Lib.hid (Gr.refl [] w0)
  go_enter Tryz.func5, Tryz.ntmps5
  have HN := Lib.hid (fun W => inode_nil19 n W)
  go_wp2_with fail
  with_reducible refine (HN.out _).mono ?_
  rintro e w1 ⟨v0, a0, c0, rfl, g1⟩
  have HG := Lib.hid (HG.out.next0 g1)
  clear g1 HN
  have HG := Lib.hid (HG.out.alloc (Obj.cells #[.int .u8 v0.k, .int .i64 v0.l, .int .i64 v0.s, .slice a0 v0.n c0, .string v0.t] 42))
  have HN := Lib.hid (fun W => Names_nil19 n W)
  go_wp2_with fail
  with_reducible refine (HN.out _).mono ?_
  rintro e w2 ⟨rfl, g1⟩
  have HG := Lib.hid (HG.out.next0 g1)
  clear g1 HN
  have HN := Lib.hid (fun W => Find_nil19 n s W)
  go_wp2_with fail
  with_reducible refine (HN.out _).mono ?_
  rintro e w3 ⟨rfl, g1⟩
  have HG := Lib.hid (HG.out.next0 g1)
  clear g1 HN
  have HN := Lib.hid (fun W => Walk_nil19 n false (.slice none 0 0) false true W)
  go_wp2_with fail
  with_reducible refine (HN.out _).mono ?_
  rintro e w4 ⟨rfl, g1⟩
  have HG := Lib.hid (HG.out.next0 g1)
  clear g1 HN
  have HN := Lib.hid (fun W => Make_nil19 n s 0 0 0 (.slice none 0 0) ⟨#[]⟩ W)
  go_wp2_with fail
  with_reducible refine (HN.out _).mono ?_
  rintro e w5 ⟨rfl, g1⟩
  have HG := Lib.hid (HG.out.next0 g1)
  clear g1 HN
  have HN := Lib.hid (fun W => Unlink_nil19 n s W)
  go_wp2_with fail
  with_reducible refine (HN.out _).mono ?_
  rintro e w6 ⟨rfl, g1⟩
  have HG := Lib.hid (HG.out.next0 g1)
  clear g1 HN
  have HN := Lib.hid (fun W => Rename_nil19 n s n s W)
  go_wp2_with fail
  with_reducible refine (HN.out _).mono ?_
  rintro e w7 ⟨rfl, g1⟩
  have HG := Lib.hid (HG.out.next0 g1)
  clear g1 HN
  have HN := Lib.hid (fun W => Unpin_nil19 n W)
  go_wp2_with fail
  with_reducible refine (HN.out _).mono ?_
  rintro e w8 ⟨rfl, g1⟩
  have HG := Lib.hid (HG.out.next0 g1)
  clear g1 HN
  have HN := Lib.hid (fun W => Up_nil19 n W)
  go_wp2_with fail
  with_reducible refine (HN.out _).mono ?_
  rintro e w9 ⟨rfl, g1⟩
  have HG := Lib.hid (HG.out.next0 g1)
  clear g1 HN
  have HN := Lib.hid (fun W => Link_nil19 n n s W)
  go_wp2_with fail
  with_reducible refine (HN.out _).mono ?_
  rintro e w10 ⟨rfl, g1⟩
  have HG := Lib.hid (HG.out.next0 g1)
  clear g1 HN
  have HN := Lib.hid (fun W => Rmdir_nil19 n s W)
  go_wp2_with fail
  with_reducible refine (HN.out _).mono ?_
  rintro e w11 ⟨rfl, g1⟩
  have HG := Lib.hid (HG.out.next0 g1)
  clear g1 HN
  have HN := Lib.hid (fun W => Set_nil19 n 0 (.slice none 0 0) W)
  go_wp2_with fail
  with_reducible refine (HN.out _).mono ?_
  rintro e w12 ⟨rfl, g1⟩
  have HG := Lib.hid (HG.out.next0 g1)
  clear g1 HN
  have HN := Lib.hid (fun W => Pin_nil19 n W)
  go_wp2_with fail
  with_reducible refine (HN.out _).mono ?_
  rintro e w13 ⟨rfl, g1⟩
  have HG := Lib.hid (HG.out.next0 g1)
  clear g1 HN

  go_wp2_with fail
  obtain ⟨W, hW⟩ : ∃ W, W = w13.alloc (Obj.cells #[.int .i64 1, .int .i64 1, .int .i64 1, .int .i64 1, .int .i64 1, .int .i64 1, .int .i64 1, .int .i64 1, .int .i64 1, .int .i64 1, .int .i64 1, .int .i64 1, .int .i64 1] 34) := ⟨_, rfl⟩
  have HGW : Hid (Gr [] w0 W) := Lib.hid (by rw [hW]; exact HG.out.alloc _)
  have hC : ∀ j : Nat, j < 13 → W.cell? ⟨w13.heap.size, j, none⟩ = some (.int .i64 1) := by
    intro j hj
    have hh := Holds.new w13 #[.int .i64 1, .int .i64 1, .int .i64 1, .int .i64 1, .int .i64 1, .int .i64 1, .int .i64 1, .int .i64 1, .int .i64 1, .int .i64 1, .int .i64 1, .int .i64 1, .int .i64 1] 34
    rw [← hW] at hh
    obtain rfl | rfl | rfl | rfl | rfl | rfl | rfl | rfl | rfl | rfl | rfl | rfl | rfl : j = 0 ∨ j = 1 ∨ j = 2 ∨ j = 3 ∨ j = 4 ∨ j = 5 ∨ j = 6 ∨ j = 7 ∨ j = 8 ∨ j = 9 ∨ j = 10 ∨ j = 11 ∨ j = 12 := by omega
    · exact hh.cell 0
    · exact hh.cell 1
    · exact hh.cell 2
    · exact hh.cell 3
    · exact hh.cell 4
    · exact hh.cell 5
    · exact hh.cell 6
    · exact hh.cell 7
    · exact hh.cell 8
    · exact hh.cell 9
    · exact hh.cell 10
    · exact hh.cell 11
    · exact hh.cell 12
  have HC := Lib.hid hC
  rw [← hW]
  clear hW hC
  go_loopw [115] (fun i wr => ∃ j : Nat, j ≤ 13 ∧ i = .int .i64 (j : Int) ∧ wr = W) (fun i _ => 13 - (intOf i).toNat)
  case atStart => exact ⟨0, by omega, rfl, rfl⟩
  case round =>
    obtain ⟨j, hj, rfl, rfl⟩ := hrel
    by_cases hj2 : j < 13
    · have l1 : (j : Int) < 13 := by omega
      have pc := HC.out j hj2
      go_wp2_with fail
      go_roundw
      case rel => exact ⟨j + 1, by omega, by go_num, trivial⟩
      case measure => simp [intOf]; omega
    · obtain rfl : j = 13 := by omega
      clear hj hj2
      have HNW := Lib.hid (fun W => new_any W)
      go_wp2_with fail
      with_reducible refine (HNW.out _).mono ?_
      rintro e w14 ⟨A, g, rfl, hT, hlo, g1⟩
      have ok : TrO newZ.T newZ.nm := (newZ_ok (right_dir 2 (by omega))).toTrO
      have gt : Gr [] w0 w14 := HGW.out.next0 g1
      have hlo : ∀ b ∈ A.tb :: A.own, w0.heap.size ≤ b := fun b hb => Nat.le_trans HGW.out.size (hlo b hb)
      by_cases hn1 : n = 1
      · have q1 : (n == 1) = true := by simp [hn1]
        have HN1 := Lib.hid hn1
        clear hn1 HNW HG g1
        go_wp2_with fail
        have hwf : WfZ 2 := wfZ (by omega) (by omega)
        have hx : newZ.T 2 = none := by rw [newZ_T, if_neg (by omega)]
        have hge : getE newZ.T 2 = 13 := by unfold getE; rw [hx]; rfl
        have hi := inode_any19 hT ok 2 hwf _ rfl
        rw [hge] at hi
        obtain ⟨v, hv⟩ : ∃ v, v = pickV g 13 2 := ⟨_, rfl⟩
        rw [← hv] at hi
        have HI := Lib.hid hi
        have HT := Lib.hid (And.intro hT (And.intro ok (And.intro hlo (And.intro gt (And.intro hwf hx)))))
        clear hi hv hwf hx hge hT ok hlo gt
        go_wp2_with fail
        with_reducible refine HI.out.mono ?_
        rintro e w2 ⟨ao2, cap2, rfl, g2⟩
        have hT2 := HT.out.1.gr0 g2
        have HN2 := Lib.hid (names_none hT2 2 HT.out.2.2.2.2.1 HT.out.2.2.2.2.2)
        have HG2 := Lib.hid (And.intro hT2 (HT.out.2.2.2.1.next0 g2))
        clear hT2 g2 HI
        go_wp2_with fail
        with_reducible refine HN2.out.mono ?_
        rintro e w3 ⟨rfl, g3⟩
        have hT3 := HG2.out.1.gr0 g3
        have hm := make_vac hT3 2 HT.out.2.2.2.2.1 s hs 2 0 0 none 0 0 ⟨#[]⟩ 13 (by unfold vacE openE; rw [HT.out.2.2.2.2.2]; rfl) (by decide)
        rw [show ((2 : Nat) : Int) = 2 from rfl] at hm
        have HM := Lib.hid hm
        have HG3 := Lib.hid (And.intro hT3 (HG2.out.2.next0 g3))
        clear hT3 g3 HN2 HG2 hm
        go_wp2_with fail
        with_reducible refine HM.out.mono ?_
        rintro e w4 ⟨rfl, g4⟩
        have HG4 := Lib.hid (And.intro (HG3.out.1.gr0 g4) (HG3.out.2.next0 g4))
        have HW := Lib.hid (fun W => wakes19 W)
        have HCP := Lib.hid (fun W => Copy_nil19 W)
        have HLE := Lib.hid (fun W => len_nil W)
        have HAL := Lib.hid (fun W => All_nil19 W)
        have HDE := Lib.hid (fun W => deeds_nil W)
        clear g4 HM HG3
        go_wp2_with fail
        with_reducible refine (HW.out _).mono ?_
        rintro e w5 ⟨rfl, g5⟩
        have hT5 := HG4.out.1.gr0 g5
        have HG5 := Lib.hid (And.intro hT5 (HG4.out.2.next0 g5))
        have HSE := Lib.hid (set_none hT5 2 HT.out.2.2.2.2.1 HT.out.2.2.2.2.2 0 (.slice none 0 0))
        clear g5 hT5 HG4 HW
        go_wp2_with fail
        with_reducible refine (HCP.out _).mono ?_
        rintro e w6 ⟨rfl, rfl⟩
        go_wp2_with fail
        with_reducible refine (HLE.out _).mono ?_
        rintro e w6 ⟨rfl, rfl⟩
        go_wp2_with fail
        with_reducible refine (HAL.out _).mono ?_
        rintro e w6 ⟨rfl, rfl⟩
        go_wp2_with fail
        with_reducible refine (HDE.out _).mono ?_
        rintro e w6 ⟨rfl, rfl⟩
        go_wp2_with fail
        with_reducible refine HSE.out.mono ?_
        rintro e w7 ⟨rfl, g7⟩
        have hT7 := HG5.out.1.gr0 g7
        have HG7 := Lib.hid (HG5.out.2.next0 g7)
        have HDD := Lib.hid (deeds_any hT7 HT.out.2.1 (by omega))
        clear g7 hT7 HSE HG5 HCP HLE HAL HDE
        go_wp2_with fail
        with_reducible refine HDD.out.mono ?_
        rintro e w8 ⟨v8, Ls, Li, rfl, h1, h2, h3, h4, h5, h6, h7, h8, g8⟩
        have hls : Ls.length = 0 := by
          rw [List.length_eq_zero_iff, List.eq_nil_iff_forall_not_mem]
          intro p hp
          obtain ⟨a1, a2⟩ := h4 p hp
          have this : false = true := (h3 p a1 a2).1 hp
          cases this
        have hli : Li.length = 0 := by
          rw [List.length_eq_zero_iff, List.eq_nil_iff_forall_not_mem]
          intro z hz
          have this : false = true := ((h6 z).1 hz).2
          cases this
        rw [hls, hli] at h7
        obtain ⟨va, vc, rfl⟩ := own_shp h7
        have hln := tlen_any h8 HT.out.2.1
        rw [show lenZ newZ.told.T = 1 from newZ_len] at hln
        have HLN := Lib.hid hln
        have HF := Lib.hid (HG7.out.nextN g8 fun b hb => .inr (HT.out.2.2.1 b (List.mem_cons_of_mem _ hb)))
        clear h1 h2 h3 h4 h5 h6 h7 h8 g8 hls hli hln HDD HG7
        go_wp2_with fail
        with_reducible refine HLN.out.mono ?_
        rintro e w9 ⟨rfl, rfl⟩
        go_wp2_with fail
        go_ret
        exact ⟨rfl, HF.out.below0⟩
      · have q1 : (n == 1) = false := by simp [hn1]
        have HN1 := Lib.hid hn1
        clear hn1 HNW HG g1
        go_wp2_with fail
        have hwf : WfZ n := hn
        have hx : newZ.T n = none := by rw [newZ_T, if_neg HN1.out]
        have hge : getE newZ.T n = 13 := by unfold getE; rw [hx]; rfl
        have hi := inode_any19 hT ok n hwf _ rfl
        rw [hge] at hi
        obtain ⟨v, hv⟩ : ∃ v, v = pickV g 13 n := ⟨_, rfl⟩
        rw [← hv] at hi
        have HI := Lib.hid hi
        have HT := Lib.hid (And.intro hT (And.intro ok (And.intro hlo (And.intro gt (And.intro hwf hx)))))
        clear hi hv hwf hx hge hT ok hlo gt
        go_wp2_with fail
        with_reducible refine HI.out.mono ?_
        rintro e w2 ⟨ao2, cap2, rfl, g2⟩
        have hT2 := HT.out.1.gr0 g2
        have HN2 := Lib.hid (names_none hT2 n HT.out.2.2.2.2.1 HT.out.2.2.2.2.2)
        have HG2 := Lib.hid (And.intro hT2 (HT.out.2.2.2.1.next0 g2))
        clear hT2 g2 HI
        go_wp2_with fail
        with_reducible refine HN2.out.mono ?_
        rintro e w3 ⟨rfl, g3⟩
        have hT3 := HG2.out.1.gr0 g3
        have hm := make_vac hT3 n HT.out.2.2.2.2.1 s hs 2 0 0 none 0 0 ⟨#[]⟩ 13 (by unfold vacE openE; rw [HT.out.2.2.2.2.2]; rfl) (by decide)
        rw [show ((2 : Nat) : Int) = 2 from rfl] at hm
        have HM := Lib.hid hm
        have HG3 := Lib.hid (And.intro hT3 (HG2.out.2.next0 g3))
        clear hT3 g3 HN2 HG2 hm
        go_wp2_with fail
        with_reducible refine HM.out.mono ?_
        rintro e w4 ⟨rfl, g4⟩
        have HG4 := Lib.hid (And.intro (HG3.out.1.gr0 g4) (HG3.out.2.next0 g4))
        have HW := Lib.hid (fun W => wakes19 W)
        have HCP := Lib.hid (fun W => Copy_nil19 W)
        have HLE := Lib.hid (fun W => len_nil W)
        have HAL := Lib.hid (fun W => All_nil19 W)
        have HDE := Lib.hid (fun W => deeds_nil W)
        clear g4 HM HG3
        go_wp2_with fail
        with_reducible refine (HW.out _).mono ?_
        rintro e w5 ⟨rfl, g5⟩
        have hT5 := HG4.out.1.gr0 g5
        have HG5 := Lib.hid (And.intro hT5 (HG4.out.2.next0 g5))
        have HSE := Lib.hid (set_none hT5 n HT.out.2.2.2.2.1 HT.out.2.2.2.2.2 0 (.slice none 0 0))
        clear g5 hT5 HG4 HW
        go_wp2_with fail
        with_reducible refine (HCP.out _).mono ?_
        rintro e w6 ⟨rfl, rfl⟩
        go_wp2_with fail
        with_reducible refine (HLE.out _).mono ?_
        rintro e w6 ⟨rfl, rfl⟩
        go_wp2_with fail
        with_reducible refine (HAL.out _).mono ?_
        rintro e w6 ⟨rfl, rfl⟩
        go_wp2_with fail
        with_reducible refine (HDE.out _).mono ?_
        rintro e w6 ⟨rfl, rfl⟩
        go_wp2_with fail
        with_reducible refine HSE.out.mono ?_
        rintro e w7 ⟨rfl, g7⟩
        have hT7 := HG5.out.1.gr0 g7
        have HG7 := Lib.hid (HG5.out.2.next0 g7)
        have HDD := Lib.hid (deeds_any hT7 HT.out.2.1 (by omega))
        clear g7 hT7 HSE HG5 HCP HLE HAL HDE
        go_wp2_with fail
        with_reducible refine HDD.out.mono ?_
        rintro e w8 ⟨v8, Ls, Li, rfl, h1, h2, h3, h4, h5, h6, h7, h8, g8⟩
        have hls : Ls.length = 0 := by
          rw [List.length_eq_zero_iff, List.eq_nil_iff_forall_not_mem]
          intro p hp
          obtain ⟨a1, a2⟩ := h4 p hp
          have this : false = true := (h3 p a1 a2).1 hp
          cases this
        have hli : Li.length = 0 := by
          rw [List.length_eq_zero_iff, List.eq_nil_iff_forall_not_mem]
          intro z hz
          have this : false = true := ((h6 z).1 hz).2
          cases this
        rw [hls, hli] at h7
        obtain ⟨va, vc, rfl⟩ := own_shp h7
        have hln := tlen_any h8 HT.out.2.1
        rw [show lenZ newZ.told.T = 1 from newZ_len] at hln
        have HLN := Lib.hid hln
        have HF := Lib.hid (HG7.out.nextN g8 fun b hb => .inr (HT.out.2.2.1 b (List.mem_cons_of_mem _ hb)))
        clear h1 h2 h3 h4 h5 h6 h7 h8 g8 hls hli hln HDD HG7
        go_wp2_with fail
        with_reducible refine HLN.out.mono ?_
        rintro e w9 ⟨rfl, rfl⟩
        go_wp2_with fail
        go_ret
        exact ⟨rfl, HF.out.below0⟩
end Go.Proofs.YtgleopahldpajaaGreat

/-
  The frame of a law's row, the part that is the same for all: arrays of integers opened; facts on the program.
-/
namespace Go.Proofs.YtgleopahldpajaaGreat
open Go.ChangeShapes Go.WideShapes Go.ChangeAt Go.RowKit

theorem own_ : ownKnob Tryz.prog.godebug = none := by kernel_rfl
theorem laid_ : laidOutB Tryz.prog = true := by kernel_rfl

end Go.Proofs.YtgleopahldpajaaGreat
