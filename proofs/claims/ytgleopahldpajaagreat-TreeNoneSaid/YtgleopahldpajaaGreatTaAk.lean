/-
  TaAk: TrF, ExH, TrH, TrI.
-/
import Derived.Test.YtgleopahldpajaaGreatTaAj
import Derived.Test.YtgleopahldpajaaGreatTaAf
import Derived.Test.YtgleopahldpajaaGreatTaAg
import Derived.StillTailTactics
import Derived.Deep.Onto
import Derived.Deep.RegionHeld3
import Derived.Laws.IdiomCopy

set_option linter.unusedVariables false

/-
  Layer 19 (tree): New; an inode's links are changed.
-/
namespace Go.Proofs.YtgleopahldpajaaGreat
open Go.RowKit
set_option linter.unusedVariables false
def emptyZ : TrZ := ⟨fun _ => none, [], fun _ _ => false, fun _ => false⟩
def rootN : NdZ := ⟨2, 2, 0, [], ⟨#[]⟩, 1, 0⟩
/-- A new tree. -/
def newZ : TrZ := emptyZ.keepN 1 rootN
theorem newZ_ok (hr : Right16 2 2 0 [] ⟨#[]⟩) : TrOk newZ.T newZ.nm := by
  have key : ∀ n x, newZ.T n = some x → n = 1 ∧ x = rootN := fun n x hx => by
    rcases upd_cases (T := emptyZ.T) hx with q | ⟨_, q⟩
    · exact q
    · cases q
  refine TrOk.mk (TrO.mk ⟨rootN, (show updN emptyZ.T 1 (some rootN) 1 = _ from updN_same _ _ _), rfl, Nat.le_refl _, rfl⟩ (fun n x hx => ?_) (fun n x hx => ?_) List.nodup_nil (fun x hx => by cases hx) (fun n x hx hk => ?_) (fun n x hx hk hl => ?_) (fun n x hx hk hl h1 => ?_) ⟨fun _ => 0, fun n x hx hk hl h1 => ?_⟩) (fun n x hx hl => ?_)
  · obtain ⟨rfl, _⟩ := key n x hx; omega
  · obtain ⟨_, rfl⟩ := key n x hx; exact hr
  · obtain ⟨_, rfl⟩ := key n x hx; exact absurd rfl hk
  · obtain ⟨_, rfl⟩ := key n x hx; rfl
  · exact absurd (key n x hx).1 h1
  · exact absurd (key n x hx).1 h1
  · obtain ⟨_, rfl⟩ := key n x hx; cases hl
section
variable {w w' w2 : World} {A : TrA} {Z : TrZ} {K : Nat} {g : Int → NdV} {n : Int} {x : NdZ} {v : NdV}
set_option maxRecDepth 20000 in
set_option maxHeartbeats 1000000 in
theorem empty_any (g : Int → NdV) (w : World) : Calls Tryz.prog 47 #[] w fun e w' => ∃ A : TrA, e = .returned (.pointer (some ⟨A.tb, 0, none⟩)) ∧ TrG w' A emptyZ 0 g ∧ (∀ b ∈ A.tb :: A.own, w.heap.size ≤ b) ∧ Gr [] w w' := by
  have hmm := @run_makeMap Tryz.prog
  go_enter Tryz.func47, Tryz.ntmps47
  go_wp2_with fail
  go_ret
  refine ⟨⟨w.heap.size + 1 + 1 + 1, w.heap.size, w.heap.size + 1, w.heap.size + 1 + 1⟩, rfl, ?_, ?_, (((Gr.refl [] w).alloc _).alloc _).alloc _ |>.alloc _⟩
  · have m1 : MapZ ndE 3 (w.alloc (.map #[] 0)) w.heap.size 0 (gT g emptyZ.T) := MapZ.made w
    have m2 : MapZ setE 3 ((w.alloc (.map #[] 0)).alloc (.map #[] 0)) (w.heap.size + 1) 0 (fun z => if emptyZ.sn z then some () else none) := by
      have := MapZ.made (E := setE) (k := 3) (w.alloc (.map #[] 0))
      rw [World.size_alloc] at this
      exact this
    have m3 : MapS (((w.alloc (.map #[] 0)).alloc (.map #[] 0)).alloc (.map #[] 0)) (w.heap.size + 1 + 1) 0 emptyZ.sp := by
      have := MapS.made ((w.alloc (.map #[] 0)).alloc (.map #[] 0))
      rw [World.size_alloc, World.size_alloc] at this
      exact this
    have hd := Holds.new (((w.alloc (.map #[] 0)).alloc (.map #[] 0)).alloc (.map #[] 0)) #[.map (some w.heap.size), .map (some (w.heap.size + 1)), .map (some (w.heap.size + 1 + 1))] 130
    rw [World.size_alloc, World.size_alloc, World.size_alloc] at hd
    exact ⟨hd, ((m1.gr0 ((Gr.refl _ _).alloc _)).gr0 ((Gr.refl _ _).alloc _)).gr0 ((Gr.refl _ _).alloc _), (fun n x hx => by cases hx), (m2.gr0 ((Gr.refl _ _).alloc _)).gr0 ((Gr.refl _ _).alloc _), m3.gr0 ((Gr.refl _ _).alloc _), ⟨(by show w.heap.size ≠ w.heap.size + 1; omega), (by show w.heap.size ≠ w.heap.size + 1 + 1; omega), (by show w.heap.size + 1 ≠ w.heap.size + 1 + 1; omega)⟩, (by simp [TrA.own]; omega), Nat.zero_le _⟩
  · intro b hb
    simp [TrA.own] at hb
    omega
theorem root_is {B : List Nat} {D : DiA} (hD : DiIs w D (fun _ => none) []) (hnb : D.nb = 4) (hb : ∀ b ∈ D.all, b ∉ B) : NdIs w B emptyZ.nm 0 1 ⟨2, 2, 0, none, 0, 0, ⟨#[]⟩, some ⟨D.db, 0, none⟩, 1, 0⟩ rootN :=
  ⟨rfl, rfl, rfl, rfl, rfl, Sl2.nil _, fun b e => (by cases e), fun _ => rfl, fun _ => ⟨D, rfl, hD, by omega, hb⟩, fun c => absurd rfl c⟩
theorem TrG.own_lt (h : TrG w A Z K g) : ∀ b ∈ A.own, b < w.heap.size := fun b hb => by
  obtain ⟨_, h1, h2, h3⟩ := h.lt
  simp [TrA.own] at hb
  rcases hb with rfl | rfl | rfl <;> assumption
set_option maxRecDepth 20000 in
set_option maxHeartbeats 2000000 in
theorem new_any (w : World) : Calls Tryz.prog 9 #[] w fun e w' => ∃ (A : TrA) (g : Int → NdV), e = .returned (.pointer (some ⟨A.tb, 0, none⟩)) ∧ TrG w' A newZ 1 g ∧ (∀ b ∈ A.tb :: A.own, w.heap.size ≤ b) ∧ Gr [] w w' := by
  have HE := Lib.hid (empty_any (fun _ => ndZero) w)
  go_enter Tryz.func9, Tryz.ntmps9
  go_wp2_with fail
  with_reducible refine HE.out.mono ?_
  rintro e w1 ⟨A, rfl, hT, hlo, g1⟩
  have c0 := hT.hd.cell 0
  have HT := Lib.hid (And.intro hT (And.intro hlo g1))
  clear hT hlo g1 HE
  go_upto_region 2 with fail
  go_region_with (
      (go_at_call 48; (with_reducible refine (dnew_any _).mono ?_); rintro e w2 ⟨D, rfl, hnb, hD, hlo2, g2⟩
       have g2' : Gr [] w1 w2 := ((Gr.refl [] w1).drew).trans g2
       have e0 := (HT.out.1.hd.gr0 g2').cell 0
       have HD := Lib.hid (And.intro hnb (And.intro hD (And.intro hlo2 g2')))
       obtain ⟨w3, hrun, hm3, hg3, hs3⟩ := MapZ.put_run (HT.out.1.nodes.gr0 g2') (by unfold maxLen; omega) undInt19 undNodes (z := 1) (wfZ (by omega) (by omega)) (⟨2, 2, 0, none, 0, 0, ⟨#[]⟩, some ⟨D.db, 0, none⟩, 1, 0⟩ : NdV)
       have hrun' : (Instr.mapUpdate 126 (.map (some A.nb)) (.int .i64 1) (.agg #[.int .u8 2, .int .i64 2, .int .i64 0, .slice none 0 0, .string ⟨#[]⟩, .pointer (some ⟨D.db, 0, none⟩), .int .i64 1, .int .i64 0])).run Tryz.prog w2 = .ok () w3 := hrun
       have HF := Lib.hid (And.intro ((HT.out.1.gr0 g2').put_keep hg3 hm3 (root_is hD hnb fun b hb e => by have h1 := hlo2 b hb; have h2 := HT.out.1.own_lt b e; have h3 : w1.heap.size ≤ b := h1; omega)) ((HT.out.2.2.next0 g2').nextN hg3 fun b hb => .inr (HT.out.2.1 b (by rw [List.mem_singleton] at hb; rw [hb]; simp [TrA.own]))))
       clear hnb hD hlo2 g2 g2' hrun hm3 hg3 hs3))
  all_goals
    go_wp2_with fail
    go_ret
    exact ⟨A, _, rfl, HF.out.1, HT.out.2.1, HF.out.2⟩
end
end Go.Proofs.YtgleopahldpajaaGreat

/-
  Layer 15: the program's valid, Append, split.
-/
namespace Go.Proofs.YtgleopahldpajaaGreat
open Go.RowKit

theorem own_formX {w : World} {base : Nat} {e : TypeId} {size n : Nat} {v : Value} {xs : List Value} (h : w.ownsRow base e size v n xs) : ∃ ao cap, v = .slice ao n cap := by
  rcases h.2 with ⟨rfl, rfl⟩ | ⟨g, cap, cur, rfl, _⟩
  · exact ⟨none, 0, rfl⟩
  · exact ⟨_, _, rfl⟩
theorem infoExtH : (Tryz.prog.info? 158).map (fun i => (i.zero, i.size, i.bytes)) = some (some (.agg #[.int .i64 0, .int .i64 0]), 2, 16) := by kernel_rfl
end Go.Proofs.YtgleopahldpajaaGreat

/-
  Layer 19 (tree): an inode's links are changed; what nobody needs is gone.
-/
namespace Go.Proofs.YtgleopahldpajaaGreat
open Go.RowKit
set_option linter.unusedVariables false
section
variable {w w' w2 : World} {A : TrA} {Z : TrZ} {K : Nat} {g : Int → NdV} {n : Int} {x : NdZ} {v : NdV}
theorem NdIs.links {B : List Nat} {nm : List NmZ} (h : NdIs w B nm K n v x) (l : Nat) : NdIs w B nm K n { v with l := (l : Int) } (x.lk l) :=
  ⟨h.k, rfl, h.s, h.t, h.op, h.b, h.bb, h.up, h.dir, h.nod⟩
set_option maxRecDepth 20000 in
set_option maxHeartbeats 2000000 in
theorem relink_any (h : TrG w A Z K g) (n : Int) (hn : WfZ n) (x : NdZ) (hx : Z.T n = some x) (by0 : Int) (l : Nat) (hl : (x.l : Int) + by0 = (l : Int)) (hl2 : l ≤ 2000) (hK : K ≤ 100000) : Calls Tryz.prog 61 #[.pointer (some ⟨A.tb, 0, none⟩), .int .i64 n, .int .i64 by0] w fun e w' => e = .returned (.tuple #[]) ∧ TrG w' A (Z.putN n (x.lk l)) (K + 1) (updG g n { g n with l := (l : Int) }) ∧ Gr A.own w w' := by
  have his := h.nd n x hx
  obtain ⟨v, hv⟩ : ∃ v, v = g n := ⟨_, rfl⟩
  rw [← hv] at his ⊢
  have hvl : v.l + by0 = (l : Int) := by rw [his.l]; exact hl
  have hwr : IntKind.i64.wrap (v.l + by0) = (l : Int) := by rw [hvl]; exact IntWalk.i64_in _ (by omega)
  have g1 : Gr [] w (w.alloc (Obj.cells #[.int .u8 v.k, .int .i64 (l : Int), .int .i64 v.s, .slice v.ao v.n v.cap, .string v.t, .pointer v.dp, .int .i64 v.up, .int .i64 v.op] 125)) := (Gr.refl [] w).alloc _
  have HP := Lib.hid (put_any19 (h.gr0 g1) n hn { v with l := (l : Int) } (x.lk l) ((his.links l).gr g1 (by simp)) hK)
  have HM := Lib.hid h.nodes
  have HW := Lib.hid hn
  have HV := Lib.hid (show ndE.val ((gT g Z.T n).getD ndE.zero) = .agg #[.int .u8 v.k, .int .i64 v.l, .int .i64 v.s, .slice v.ao v.n v.cap, .string v.t, .pointer v.dp, .int .i64 v.up, .int .i64 v.op] by rw [gT_some hx, hv]; rfl)
  have c0 := h.hd.cell 0
  have HG := Lib.hid g1
  unfold ndVal at HP
  clear h hn hx hl his hv hvl g1
  go_enter Tryz.func61, Tryz.ntmps61
  go_wp2_with (at_lookup; refine wp_lookZs rfl _ _ rfl rfl HM.out undInt19 undNodes n rfl HW.out _ HV.out ?_)
  with_reducible refine HP.out.mono ?_
  rintro e w1 ⟨rfl, hT, g2⟩
  have HT := Lib.hid (And.intro hT (HG.out.of0.trans g2))
  clear hT g2 HP HG
  go_wp2_with fail
  go_returns
  exact ⟨rfl, HT.out⟩
/-! ### settle -/
theorem right15_nil : Right15 [] := ⟨by simp, by unfold okK; exact ⟨by simp, rfl⟩, by show (0 : Int) ≤ 65536; omega⟩
theorem right_runs {k : Nat} {l s : Int} {b : List (Int × Int)} {t : ByteArray} (h : Right16 k l s b t) : Right15 b ∧ 0 ≤ sumZ b := by
  obtain ⟨_, _, h | h | h⟩ := h
  · exact ⟨h.2.2.2.2.1, by rw [h.2.2.2.2.2]; unfold needZ; split <;> omega⟩
  · have := List.length_eq_zero_iff.1 h.2.2.1
    subst this
    exact ⟨right15_nil, Int.le_refl _⟩
  · have := List.length_eq_zero_iff.1 h.2.2.2.2.2
    subst this
    exact ⟨right15_nil, Int.le_refl _⟩
end
end Go.Proofs.YtgleopahldpajaaGreat

/-
  Layer 19 (tree): a name is made, and dropped.
-/
namespace Go.Proofs.YtgleopahldpajaaGreat
open Go.RowKit
set_option linter.unusedVariables false
theorem DiIs.perm {w : World} {A : DiA} {F : ByteArray → Option Nat} {N M : List ByteArray} (h : DiIs w A F N) (p : N.Perm M) : DiIs w A F M := by
  refine ⟨by rw [← p.length_eq]; exact h.hd, ⟨h.bk.lt, h.bk.at', fun i hi => ?_, h.bk.ne, h.bk.na⟩, h.ok.of_perm p, h.nd, by rw [← p.length_eq]; exact h.nb⟩
  rw [← cntB_perm p]; exact h.bk.mp i hi
theorem lkN_putT (nm : List NmZ) (n : Int) (s : ByteArray) (u : Nat) (h : lkN nm n s = none) : lkN (nm ++ [(n, s, u)]) n = updT (lkN nm n) s (some u) := by
  funext y
  rw [lkN_put nm n s u h]
  unfold updT
  by_cases e : y = s <;> simp [e]
theorem lkN_putF (nm : List NmZ) (n : Int) (s : ByteArray) (u : Nat) (h : lkN nm n s = none) {m : Int} (hm : m ≠ n) : lkN (nm ++ [(n, s, u)]) m = lkN nm m := by
  funext y
  rw [lkN_put nm n s u h, if_neg fun c => hm c.1]
theorem nmsOf_put (nm : List NmZ) (n : Int) (s : ByteArray) (u : Nat) (m : Int) : nmsOf (nm ++ [(n, s, u)]) m = nmsOf nm m ++ (if n = m then [s] else []) := by
  unfold nmsOf
  rw [List.filter_append, List.map_append]
  by_cases e : n = m <;> simp [e]
theorem nmsOf_len (nm : List NmZ) (n : Int) : (nmsOf nm n).length ≤ nm.length := by
  unfold nmsOf
  rw [List.length_map]
  exact List.length_filter_le _ _
/-- The tree with other names. -/
def TrZ.names (Z : TrZ) (nm : List NmZ) (n : Int) (s : ByteArray) : TrZ := { Z with nm := nm, sp := updS Z.sp n s }
section
variable {w w' w2 : World} {A : TrA} {Z : TrZ} {K : Nat} {g : Int → NdV} {n : Int} {x : NdZ} {v : NdV} {s : ByteArray} {nm : List NmZ}
theorem TrG.name_fin (h : TrG w A Z K g) (hx : Z.T n = some x) (q : Gr [A.nb, A.sb] w w2) (hm : MapZ ndE 3 w2 A.nb (K + 1) (updZ (gT g Z.T) n (some v))) (hs : MapS w2 A.sb (K + 1) (updS Z.sp n s)) (hv : NdIs w2 A.own nm (K + 1) n v x)
    (hoth : ∀ m, m ≠ n → lkN nm m = lkN Z.nm m ∧ nmsOf nm m = nmsOf Z.nm m) (hl : nm.length ≤ K + 1) : TrG w2 A (Z.names nm n s) (K + 1) (updG g n v) := by
  have sub : ∀ b ∈ [A.nb, A.sb], b ∈ A.own := fun b hb => by
    rcases List.mem_cons.1 hb with rfl | hb
    · simp [TrA.own]
    · rw [List.mem_singleton] at hb; subst hb; simp [TrA.own]
  have he : gT (updG g n v) Z.T = updZ (gT g Z.T) n (some v) := by
    have := gT_upd g Z.T n v x
    rw [← this]
    congr 1
    funext z
    unfold updN
    by_cases e : z = n
    · rw [if_pos e, e, hx]
    · rw [if_neg e]
  refine ⟨h.hd.gr q fun e => h.tn (sub _ e), by rw [show gT (updG g n v) (Z.names nm n s).T = _ from he]; exact hm, fun m y hy => ?_, (h.inodes.mono (by omega)).gr q ?_, hs, h.ne, h.tn, hl⟩
  · have hy : Z.T m = some y := hy
    by_cases e : m = n
    · rw [e, hx] at hy
      injection hy with hy
      rw [e, updG_same, ← hy]; exact hv
    · rw [updG_far e]
      have q1 := ((h.nd m y hy).mono (L := K + 1) (by omega)).gr q sub
      obtain ⟨o1, o2⟩ := hoth m e
      refine ⟨q1.k, q1.l, q1.s, q1.t, q1.op, q1.b, q1.bb, q1.up, fun c => ?_, q1.nod⟩
      show ∃ D : DiA, (g m).dp = some ⟨D.db, 0, none⟩ ∧ DiIs w2 D (lkN nm m) (nmsOf nm m) ∧ D.nb ≤ 4 + (K + 1) ∧ ∀ b ∈ D.all, b ∉ A.own
      rw [o1, o2]
      exact q1.dir c
  · intro e
    rcases List.mem_cons.1 e with e | e
    · exact h.ne.1 e.symm
    · exact h.ne.2.2 (List.mem_singleton.1 e)

set_option maxRecDepth 20000 in
set_option maxHeartbeats 1000000 in
theorem set_clo {D : DiA} {F : ByteArray → Option Nat} {N : List ByteArray} (hD : DiIs w D F N) (u p1 p2 : Nat) (hb : D.nb ≤ 32768) (hs : nameP s.data.toList = true) (hu : u ≤ 65535) (c1 : w.cell? ⟨p1, 0, none⟩ = some (.string s)) (c2 : w.cell? ⟨p2, 0, none⟩ = some (.int .i64 (u : Int))) : Calls Tryz.prog 125 #[.pointer (some ⟨D.db, 0, none⟩), .pointer (some ⟨p1, 0, none⟩), .pointer (some ⟨p2, 0, none⟩)] w fun e w' => e = .returned (.int .i64 0) ∧ ∃ D2 : DiA, D2.db = D.db ∧ (D2.nb = D.nb ∨ D2.nb ≤ N.length + 1) ∧ DiIs w' D2 (updT F s (some u)) (putN F N s) ∧ (∀ y ∈ D2.all, y ∈ D.all ∨ w.heap.size ≤ y) ∧ Gr D.all w w' := by
  have HP := Lib.hid (dput_ok hD s u hs hu hb)
  clear hD hs hb hu
  go_enter Tryz.func125, Tryz.ntmps125
  go_wp2_with fail
  with_reducible refine HP.out.mono ?_
  rintro e w1 ⟨rfl, D2, h1, h2, h3, h4, h5⟩
  clear HP
  go_wp2_with fail
  go_ret
  exact ⟨rfl, D2, h1, (by rw [h2]; unfold growB; split; exact .inl rfl; split; exact .inr (by omega); exact .inl rfl), h3, h4, h5⟩
set_option maxRecDepth 20000 in
set_option maxHeartbeats 4000000 in
theorem set_rename (h : TrG w A Z K g) (n : Int) (hn : WfZ n) (x : NdZ) (hx : Z.T n = some x) (hk : x.k = 2) (s : ByteArray) (u : Nat) (p1 p2 : Nat) (hs : nameP s.data.toList = true) (hu : u ≤ 65535) (hno : lkN Z.nm n s = none) (hK : K ≤ 30000) (c1 : Holds w p1 #[.string s] 9) (c2 : Holds w p2 #[.int .i64 (u : Int)] 3) : Calls Tryz.prog 121 #[.pointer (some ⟨A.tb, 0, none⟩), .int .i64 n, .string s, .func (.func 125) #[] #[.pointer (some ⟨p1, 0, none⟩), .pointer (some ⟨p2, 0, none⟩)]] w fun e w' => e = .returned (.tuple #[]) ∧ (∃ D : DiA, TrG w' A (Z.names (Z.nm ++ [(n, s, u)]) n s) (K + 1) (updG g n { g n with dp := some ⟨D.db, 0, none⟩ })) ∧ Gr A.own w w' := by
  have his := h.nd n x hx
  obtain ⟨D, hdp, hD, hnb, hDo⟩ := his.dir hk
  obtain ⟨v, hv⟩ : ∃ v, v = g n := ⟨_, rfl⟩
  rw [← hv] at his hdp ⊢
  have HV := Lib.hid (show ndE.val ((gT g Z.T n).getD ndE.zero) = .agg #[.int .u8 v.k, .int .i64 v.l, .int .i64 v.s, .slice v.ao v.n v.cap, .string v.t, .pointer (some ⟨D.db, 0, none⟩), .int .i64 v.up, .int .i64 v.op] by rw [gT_some hx, ← hv]; show ndVal v = _; unfold ndVal; rw [hdp])
  have HM := Lib.hid h.nodes
  have HW := Lib.hid hn
  have c0 := h.hd.cell 0
  have g1 : Gr [] w (w.alloc (Obj.cells #[.int .u8 v.k, .int .i64 v.l, .int .i64 v.s, .slice v.ao v.n v.cap, .string v.t, .pointer (some ⟨D.db, 0, none⟩), .int .i64 v.up, .int .i64 v.op] 125)) := (Gr.refl [] w).alloc _
  have hx1 := Holds.new w #[.int .u8 v.k, .int .i64 v.l, .int .i64 v.s, .slice v.ao v.n v.cap, .string v.t, .pointer (some ⟨D.db, 0, none⟩), .int .i64 v.up, .int .i64 v.op] 125
  have d5 := hx1.cell 5
  have HX0 := Lib.hid hx1
  have HCP := Lib.hid (dcopy_any (hD.gr0 g1))
  have HG := Lib.hid g1
  have HH := Lib.hid h
  have HI := Lib.hid his
  have HXX := Lib.hid (And.intro hx (And.intro hk hnb))
  have HS := Lib.hid (And.intro hs (And.intro hu hno))
  have HBX := Lib.hid (And.intro c1 c2)
  clear h hn hx hk his hdp hD hnb hDo hv g1 hx1 hs hu hno c1 c2
  go_enter Tryz.func121, Tryz.ntmps121
  go_wp2_with (at_lookup; refine wp_lookZs rfl _ _ rfl rfl HM.out undInt19 undNodes n rfl HW.out _ HV.out ?_)
  with_reducible refine HCP.out.mono ?_
  rintro e w1 ⟨D1, rfl, hb1, hD1, hf1, g2⟩
  have f1 : ∀ y ∈ D1.all, w.heap.size + 1 ≤ y := fun y hy => by have := hf1 y hy; rw [World.size_alloc] at this; exact this
  have hx2 := HX0.out.gr0 g2
  have k5 := hx2.cell 5
  have j5 := hx2.frozen 5
  have hx3 := hx2.set 5 (.pointer (some ⟨D1.db, 0, none⟩))
  have g3 : Gr [w.heap.size] w1 (w1.setCell ⟨w.heap.size, 5, none⟩ (.pointer (some ⟨D1.db, 0, none⟩))) := (Gr.refl [w.heap.size] w1).setCell (.inl (by simp)) _
  have g4 : Gr [] w (w1.setCell ⟨w.heap.size, 5, none⟩ (.pointer (some ⟨D1.db, 0, none⟩))) := (HG.out.next0 g2).nextN g3 fun b hb => .inr (by rw [List.mem_singleton] at hb; omega)
  have hD3 := hD1.gr g3 fun b hb e => by rw [List.mem_singleton] at e; have := f1 b hb; omega
  have z5 := hx3.cell 5
  have HX3 := Lib.hid hx3
  have HCL := Lib.hid (set_clo hD3 u p1 p2 (by have := HXX.out.2.2; omega) HS.out.1 HS.out.2.1 ((HBX.out.1.gr0 g4).cell 0) ((HBX.out.2.gr0 g4).cell 0))
  have HF1 := Lib.hid f1
  have HG4 := Lib.hid g4
  have HB1 := Lib.hid hb1
  have hsz := g4.size
  clear hb1 hD1 hf1 g2 f1 hx2 hx3 g3 g4 hD3 HCP HX0 HG d5
  go_wp2_with fail
  with_reducible refine HCL.out.mono ?_
  rintro e w2 ⟨rfl, D2, hdb, hnb2, hD2, hall, g5⟩
  have f2 : ∀ y ∈ D2.all, w.heap.size + 1 ≤ y := fun y hy => by
    rcases hall y hy with q | q
    · exact HF1.out y q
    · have := HX3.out.lt
      omega
  have G5 : Gr [] w w2 := HG4.out.nextN g5 fun b hb => .inr (by have := HF1.out b hb; omega)
  have hX2 : Holds w2 w.heap.size #[.int .u8 v.k, .int .i64 v.l, .int .i64 v.s, .slice v.ao v.n v.cap, .string v.t, .pointer (some ⟨D1.db, 0, none⟩), .int .i64 v.up, .int .i64 v.op] 125 := by
    have r := HX3.out.gr g5 fun e => by have := HF1.out _ e; omega
    simpa using r
  have hT2 := HH.out.gr0 G5
  have lt := HH.out.own_lt
  have c0 := hT2.hd.cell 0
  have d0 := hX2.cell 0
  have d1 := hX2.cell 1
  have d2 := hX2.cell 2
  have d3 := hX2.cell 3
  have d4 := hX2.cell 4
  have d5 := hX2.cell 5
  have d6 := hX2.cell 6
  have d7 := hX2.cell 7
  have hnd : NdIs w2 A.own (Z.nm ++ [(n, s, u)]) (K + 1) n { v with dp := some ⟨D1.db, 0, none⟩ } x := by
    have q := (HI.out.gr G5 (by simp)).mono (L := K + 1) (by omega)
    refine ⟨q.k, q.l, q.s, q.t, q.op, q.b, q.bb, q.up, fun _ => ⟨D2, by rw [hdb], ?_, ?_, fun b hb e => by have := f2 b hb; have := lt b e; omega⟩, fun c => absurd HXX.out.2.1 c⟩
    · rw [lkN_putT Z.nm n s u HS.out.2.2, nmsOf_put, if_pos rfl]; unfold putN at hD2; rw [HS.out.2.2] at hD2; exact hD2.perm (List.perm_append_comm (l₁ := [s]))
    · have := HXX.out.2.2
      have := HB1.out
      have := HH.out.len
      have := nmsOf_len Z.nm n
      omega
  have HT2 := Lib.hid (And.intro hT2 (And.intro hnd G5))
  have HD1 := Lib.hid (show ∃ z, z = D1.db from ⟨_, rfl⟩)
  clear hdb hnb2 hD2 hall g5 f2 G5 hT2 lt hnd HX3 HCL HF1 HG4 HB1 hsz j5 k5 z5
  go_wp2_with fail
  go_still_tail 6, (by kernel_rfl)
  have hT3 := HT2.out.1.gr0 ((Gr.refl [] w2).drew)
  have HT3 := Lib.hid hT3
  have HN3 := Lib.hid (HT2.out.2.1.gr ((Gr.refl [] w2).drew) (by simp))
  have HG3 := Lib.hid (HT2.out.2.2.drew)
  clear hT3 HT2 hX2
  go_wp2_with (first
    | (at_mapUpdate; refine wp_putZ rfl _ _ _ rfl rfl HT3.out.nodes (by unfold maxLen; omega) undInt19 undNodes n rfl HW.out ({ v with dp := some ⟨D1.db, 0, none⟩ } : NdV) rfl ?_; intro w3 hm hg hs3
       have e2 := ((HT3.out.hd.gr hg (by rw [List.mem_singleton]; exact fun e => HT3.out.tn (own_mem _ (by rw [e]; simp)))).cell 2)
       have HSP := Lib.hid ((HT3.out.spots.gr hg (by rw [List.mem_singleton]; exact fun e => HT3.out.ne.2.1 e.symm))))
    | (at_mapUpdate; refine wp_putS rfl _ _ _ rfl rfl HSP.out (by unfold maxLen; omega) n s rfl HW.out (by have := nameP_size HS.out.1; unfold maxLen; omega) rfl ?_; intro w4 hm4 hg4 hs4))
  have hq : Gr [A.nb, A.sb] w2.drew w4 := (hg.mono (fun b hb => List.mem_cons.2 (.inl (List.mem_singleton.1 hb)))).trans (Gr.mono hg4 (fun b hb => List.mem_cons_of_mem _ hb))
  have sub : ∀ b ∈ [A.nb, A.sb], b ∈ A.own := fun b hb => by
    rcases List.mem_cons.1 hb with rfl | hb
    · simp [TrA.own]
    · rw [List.mem_singleton] at hb; subst hb; simp [TrA.own]
  have HF := Lib.hid (And.intro (HT3.out.name_fin (nm := Z.nm ++ [(n, s, u)]) (s := s) HXX.out.1 hq (hm.gr hg4 (by rw [List.mem_singleton]; exact HT3.out.ne.2.1)) hm4 (HN3.out.gr hq sub) (fun m e => ⟨lkN_putF Z.nm n s u HS.out.2.2 e, by rw [nmsOf_put, if_neg (Ne.symm e), List.append_nil]⟩) (by rw [List.length_append]; have := HT3.out.len; simp; omega)) (HG3.out.of0.trans (hq.mono sub)))
  clear hm hg hs3 hm4 hg4 hs4 hq
  go_returns
  exact ⟨rfl, ⟨D1, HF.out.1⟩, HF.out.2⟩

set_option maxRecDepth 20000 in
set_option maxHeartbeats 1000000 in
theorem setName_any (h : TrG w A Z K g) (n : Int) (hn : WfZ n) (x : NdZ) (hx : Z.T n = some x) (hk : x.k = 2) (s : ByteArray) (u : Nat) (hs : nameP s.data.toList = true) (hu : u ≤ 65535) (hno : lkN Z.nm n s = none) (hK : K ≤ 30000) : Calls Tryz.prog 67 #[.pointer (some ⟨A.tb, 0, none⟩), .int .i64 n, .string s, .int .i64 (u : Int)] w fun e w' => e = .returned (.tuple #[]) ∧ (∃ D : DiA, TrG w' A (Z.names (Z.nm ++ [(n, s, u)]) n s) (K + 1) (updG g n { g n with dp := some ⟨D.db, 0, none⟩ })) ∧ Gr A.own w w' := by
  have h1 := (Holds.new w #[.string s] 9).alloc (Obj.cells #[.int .i64 (u : Int)] 3)
  have h2 := Holds.new (w.alloc (Obj.cells #[.string s] 9)) #[.int .i64 (u : Int)] 3
  rw [World.size_alloc] at h2
  have g1 : Gr [] w ((w.alloc (Obj.cells #[.string s] 9)).alloc (Obj.cells #[.int .i64 (u : Int)] 3)) := ((Gr.refl [] w).alloc _).alloc _
  have HR := Lib.hid (set_rename (h.gr0 g1) n hn x hx hk s u w.heap.size (w.heap.size + 1) hs hu hno hK h1 h2)
  have HG := Lib.hid g1
  clear h hn hx hk hs hu hno hK h1 h2 g1
  go_enter Tryz.func67, Tryz.ntmps67
  go_wp2_with fail
  with_reducible refine HR.out.mono ?_
  rintro e w1 ⟨rfl, h3, h4⟩
  have HF := Lib.hid (And.intro h3 (HG.out.of0.trans h4))
  clear h3 h4 HR HG
  go_wp2_with fail
  go_returns
  exact ⟨rfl, HF.out⟩
end
end Go.Proofs.YtgleopahldpajaaGreat
