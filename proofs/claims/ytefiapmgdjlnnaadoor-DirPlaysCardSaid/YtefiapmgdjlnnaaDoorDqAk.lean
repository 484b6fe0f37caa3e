/-
  DirPlays' walk.
-/
import Derived.Test.YtefiapmgdjlnnaaDoorDnAa
import Derived.Test.YtefiapmgdjlnnaaDoorDnAb
import Derived.Test.YtefiapmgdjlnnaaDoorDnAc
import Derived.Test.YtefiapmgdjlnnaaDoorDnAd
import Derived.Test.YtefiapmgdjlnnaaDoorDnAe
import Derived.Test.YtefiapmgdjlnnaaDoorDnAf
import Derived.Test.YtefiapmgdjlnnaaDoorDnAg
import Derived.Test.YtefiapmgdjlnnaaDoorDnAh
import Derived.Test.YtefiapmgdjlnnaaDoorDnAi
import Derived.Test.YtefiapmgdjlnnaaDoorDqAj
import Derived.Deep.CutBlock

namespace Go.Proofs.YtefiapmgdjlnnaaDoor
open Go.RowKit Go.Shelf
set_option linter.unusedVariables false

/-- The name that a copy is given. -/
def copS : ByteArray := ⟨#[99, 111, 112, 105, 101, 100]⟩
theorem copS_name : nameP copS.data.toList = true := by decide
theorem dput_cop {w : World} {A : DiA} {F : ByteArray → Option Nat} {N : List ByteArray} (h : DiIs w A F N) (hb : A.nb ≤ 32768) : Calls Tryd.prog 9 #[.pointer (some ⟨A.db, 0, none⟩), .string ⟨#[99, 111, 112, 105, 101, 100]⟩, .int .i64 1] w fun e w' => e = .returned (.int .i64 0) ∧ ∃ A' : DiA, A'.db = A.db ∧ A'.nb = growB A.nb F N copS ∧ DiIs w' A' (updT F copS (some 1)) (putN F N copS) ∧ (∀ x ∈ A'.all, x ∈ A.all ∨ w.heap.size ≤ x) ∧ Gr A.all w w' :=
  dput_ok h copS 1 copS_name (by omega) hb
theorem rput_cop {w : World} {base : Nat} {L : List Ent} {ao : Option Addr} {cap nb : Nat} (h : EntR w base (.slice ao L.length cap) L) (hup : L.Pairwise ltE) (hL : L.length ≤ 100000) (hnb : nb ≤ 65536) (hlv : ∀ g, (Value.slice ao L.length cap).ownBlock = some g → g < w.heap.size) :
    Calls Tryd.prog 10 #[.agg #[.slice ao L.length cap, .int .i64 (nb : Int)], .string ⟨#[99, 111, 112, 105, 101, 100]⟩, .int .i64 1] w fun e w' => ∃ ao' cap', e = .returned (.tuple #[dirV ao' (insE L copS 1).length cap' (growE nb L (insE L copS 1)), .int .i64 0]) ∧ EntR w' w.heap.size (.slice ao' (insE L copS 1).length cap') (insE L copS 1) ∧ Gr [] w w' :=
  rput_ok h hup hL hnb hlv copS 1 copS_name (by omega)
set_option maxRecDepth 100000 in
set_option maxHeartbeats 40000000 in
theorem dplays_law (v : Value) {w : World} (hv : SlD w v) :
    Calls Tryd.prog 3 #[v] w fun e w' => e = .returned (.bool true) ∧ Gr [] w w' := by
  have HV := Lib.hid hv
  clear hv
  go_enter Tryd.func3, Tryd.ntmps3
  go_wp2_with fail
  refine (dnew_any w).mono ?_
  rintro e w2 ⟨A, rfl, n1, d1, l1, g1⟩
  have H2 := Lib.hid (show Lw w (w2.alloc (Obj.cells #[.slice none 0 0, .int .i64 4] 27)) A (fun _ => none) [] w2.heap.size 0 (.slice none 0 0) (.int .i64 (A.nb : Int)) (.slice none 0 0) [] 0 from by
    have g := (Gr.refl [] w2).alloc (Obj.cells #[.slice none 0 0, .int .i64 4] 27)
    refine ⟨g1.next0 g, d1.gr0 g, l1, ?_, World.ownsRow_nil _ _ _ _, ⟨List.Pairwise.nil, by simp⟩, by simp, by simp, by omega, g1.size, fun q => by have := d1.lt _ q; omega, fun x hx => by cases hx⟩
    rw [n1]
    exact Holds.new w2 _ _)
  clear n1 d1 l1 g1
  go_upto_region 3 with fail
  generalize (w2.alloc (Obj.cells #[.slice none 0 0, .int .i64 4] 27)) = w3 at *
  obtain ⟨mb, hmb⟩ : ∃ x, w2.heap.size = x := ⟨_, rfl⟩
  rw [hmb] at H2 ⊢
  clear hmb
  go_wp2_with fail
  refine (wakes17 _).mono ?_
  rintro e w5 ⟨rfl, g3⟩
  have H5 := Lib.hid (H2.out.gr0 g3)
  clear g3 H2
  go_upto_region 5 with fail
  go_cut [32, 33, 34] (fun sv nv iv wz => wz = w5 ∧ iv = .int .i64 0 ∧ ∃ (M cap : Nat) (ao : Option Addr), sv = .slice ao M cap ∧ nv = .int .i64 (M : Int) ∧ M ≤ 60 ∧ ∀ k, k < M → ∃ (vb off : Nat) (x : ActD), ao = some ⟨vb, off, none⟩ ∧ vb < w.heap.size ∧ ActDIs x ∧ ActDAt w vb (off + k * 3) x)
  case first =>
    rcases HV.out with ⟨ao, cap, rfl, hn, hm⟩ | ⟨vb, off, N, cap, xs, rfl, h1, h2, h3, h4, h5⟩
    · have hmn := minIs17 Tryd.prog 0 0 60 60 rfl rfl
      have HNN := Lib.hid hn
      unfold maxLen at hm
      clear hn HV
      cases ao
      case none =>
        obtain rfl := HNN.out rfl
        go_wp2_with fail
        go_meet
        exact ⟨rfl, rfl, 0, 0, none, rfl, rfl, by omega, fun k hk => by omega⟩
      case some ad =>
        go_wp2_with fail
        go_meet
        exact ⟨rfl, rfl, 0, _, _, rfl, rfl, by omega, fun k hk => by omega⟩
    · obtain ⟨M, hM⟩ : ∃ M, M = min N 60 := ⟨_, rfl⟩
      have hmn := minIs17 Tryd.prog N M 60 60 rfl hM
      have hM1 : M ≤ N := by omega
      have HM12 := Lib.hid (show M ≤ 60 by omega)
      have HCl := Lib.hid h5
      have HVB := Lib.hid h4
      unfold maxLen at h3
      clear hM h4 h5 HV
      have HML1 := Lib.hid hM1
      go_wp2_with fail
      go_meet
      exact ⟨rfl, rfl, M, _, _, rfl, rfl, HM12.out, fun k hk => ⟨vb, off, xs k, rfl, HVB.out, HCl.out k (by have := HML1.out; omega)⟩⟩
  case rest =>
    obtain ⟨hwc, rfl, M, cap, ao, rfl, rfl, hM60, hcl⟩ := hcut
    rw [← hwc] at H5
    have HCl := Lib.hid hcl
    have HM60 := Lib.hid hM60
    clear hcl HV hM60 hwc
    go_wp2_with fail
    go_loopw [3, 34] (fun dv z wr => ∃ (n : Nat) (A : DiA) (F : ByteArray → Option Nat) (N : List ByteArray) (base : Nat) (v : Value) (L : List Ent), n ≤ M ∧ z = .int .i64 (n : Int) ∧ dv = .pointer (some ⟨A.db, 0, none⟩) ∧ Hid (Lw w wr A F N mb base v (.int .i64 (A.nb : Int)) v L n)) (fun _ z _ => M - (intOf z).toNat)
    case atStart => exact ⟨0, _, _, _, _, _, _, by omega, rfl, rfl, H5⟩
    case round =>
      clear H5
      obtain ⟨n, A, F, N, base, v, L, hn, rfl, rfl, HA⟩ := hrel
      by_cases hnM : n < M
      · skip
        obtain ⟨vb, off, x, rfl, hvb, hxi, e0, e1, e2⟩ := HCl.out n hnM
        have e0 := (HA.out.gr.cell0 hvb).trans e0
        have e1 := (HA.out.gr.cell0 hvb).trans e1
        have e2 := (HA.out.gr.cell0 hvb).trans e2
        obtain ⟨xd, xz, xs⟩ := x
        dsimp only at e0 e1 e2
        have HXI := Lib.hid hxi
        unfold ActDIs at HXI
        dsimp only at HXI
        have ik : (n : Int) < (M : Int) := by omega
        have HNM := Lib.hid (show n + 1 ≤ M by omega)
        have HN60 := Lib.hid (show n + 1 ≤ 60 by have := HM60.out; omega)
        have hk0 : (0 : Int) ≤ (n : Int) := by omega
        clear hxi hvb
        go_upto_region 8 with fail
        have ht := Holds.new wr #[.int .i64 xd, .int .i64 xz, .string xs] 30
        have ga := (Gr.refl [] wr).alloc (Obj.cells #[.int .i64 xd, .int .i64 xz, .string xs] 30)
        have HD := Lib.hid (HA.out.gr0 ga)
        have HT := Lib.hid ht
        have HTb := Lib.hid (show (∀ x ∈ A.all, x ≠ wr.heap.size) ∧ mb ≠ wr.heap.size from ⟨fun x hx => by have := HA.out.d.lt x hx; omega, by have := HA.out.m.lt; omega⟩)
        clear ht ga e0 e1 e2 HA
        generalize (wr.alloc (Obj.cells #[.int .i64 xd, .int .i64 xz, .string xs] 30)) = w6 at *
        obtain ⟨tb, htb⟩ : ∃ tb, wr.heap.size = tb := ⟨_, rfl⟩
        rw [htb] at HT HTb ⊢
        clear htb
        have c2 := HT.out.cell 2
        obtain ⟨m, hm⟩ : ∃ m, m = min xs.size 40 := ⟨_, rfl⟩
        have hmn := minIs17 Tryd.prog xs.size m 40 40 rfl hm
        have hm1a : m ≤ xs.size := by omega
        have hbl1 : (xs.size : Int) ≤ 9223372036854775807 := by have := HXI.out.2.2; unfold maxLen at this; omega
        have im1 : (m : Int) ≤ (xs.size : Int) := by omega
        have im10 : (0 : Int) ≤ (m : Int) := by omega
        have HTm := Lib.hid (show (xs.extract 0 m).size ≤ 40 from by rw [ByteArray.size_extract]; omega)
        clear hm
        go_upto_region 9 with fail
        obtain ⟨T, hT⟩ : ∃ T, T = xs.extract 0 m := ⟨_, rfl⟩
        have HTs := Lib.hid (show T.size ≤ 40 from by rw [hT]; exact HTm.out)
        rw [← hT]
        clear hT HTm hmn hm1a hbl1 im1 im10 c2
        obtain ⟨ao2, cap2, hv2⟩ := HD.out.e.shape
        subst hv2
        have q0 : w6.cell? ⟨mb, 0, none⟩ = some (.slice ao2 L.length cap2) := HD.out.m.cell 0
        have q1 : w6.cell? ⟨mb, 1, none⟩ = some (.int .i64 (A.nb : Int)) := HD.out.m.cell 1
        have c0 : w6.drew.cell? ⟨mb, 0, none⟩ = some (.slice ao2 L.length cap2) := HD.out.m.cell 0
        have c1 : w6.drew.cell? ⟨mb, 1, none⟩ = some (.int .i64 (A.nb : Int)) := HD.out.m.cell 1
        have gz := (Gr.refl [] w6).drew.alloc (Obj.cells #[.slice none 0 0, .int .i64 0] 27)
        have gy := (Gr.refl [] w6).alloc (Obj.cells #[.slice none 0 0, .int .i64 0] 27)
        have p0 : (w6.drew.alloc (Obj.cells #[.slice none 0 0, .int .i64 0] 27)).cell? ⟨mb, 0, none⟩ = some (.slice ao2 L.length cap2) := (gz.cell0 HD.out.m.lt).trans (HD.out.m.cell 0)
        have p1 : (w6.drew.alloc (Obj.cells #[.slice none 0 0, .int .i64 0] 27)).cell? ⟨mb, 1, none⟩ = some (.int .i64 (A.nb : Int)) := (gz.cell0 HD.out.m.lt).trans (HD.out.m.cell 1)
        have r0 : (w6.alloc (Obj.cells #[.slice none 0 0, .int .i64 0] 27)).cell? ⟨mb, 0, none⟩ = some (.slice ao2 L.length cap2) := (gy.cell0 HD.out.m.lt).trans (HD.out.m.cell 0)
        have r1 : (w6.alloc (Obj.cells #[.slice none 0 0, .int .i64 0] 27)).cell? ⟨mb, 1, none⟩ = some (.int .i64 (A.nb : Int)) := (gy.cell0 HD.out.m.lt).trans (HD.out.m.cell 1)
        clear gz gy
        go_region
        have gA := ((Gr.refl [] w6).alloc (Obj.cells #[.slice ao2 L.length cap2, .int .i64 (A.nb : Int)] 27)).drew
        have HT2 := Lib.hid (HT.out.gr0 gA)
        have HO := Lib.hid (show Holds (w6.alloc (Obj.cells #[.slice ao2 L.length cap2, .int .i64 (A.nb : Int)] 27)).drew w6.heap.size #[.slice ao2 L.length cap2, .int .i64 (A.nb : Int)] 27 from (Holds.new w6 _ _).gr0 ((Gr.refl [] _).drew))
        have HOb := Lib.hid (show ∀ x ∈ A.all, x ≠ w6.heap.size from fun x hx => by have := HD.out.d.lt x hx; omega)
        have HD2 := Lib.hid (HD.out.gr0 gA)
        clear gA q0 q1 c0 c1 p0 p1 r0 r1 HT HD
        generalize (w6.alloc (Obj.cells #[.slice ao2 L.length cap2, .int .i64 (A.nb : Int)] 27)).drew = w7 at *
        obtain ⟨ob, hob⟩ : ∃ x, w6.heap.size = x := ⟨_, rfl⟩
        rw [hob] at HO HOb ⊢
        clear hob
        have HD := HD2
        have HT := HT2
        clear HD2 HT2
        have hd0 := mx_nonneg xd
        have hmx := max0 Tryd.prog
        have c0 := HT.out.cell 0
        have i5 : (mx xd).tmod 5 = mx xd % 5 := Int.tmod_eq_emod_of_nonneg hd0
        have m1 := Int.emod_nonneg (mx xd) (show (5 : Int) ≠ 0 by omega)
        have m2 := Int.emod_lt_of_pos (mx xd) (show (0 : Int) < 5 by omega)
        have w2' : IntKind.i64.wrap (mx xd % 5) = mx xd % 5 := IntWalk.i64_in _ (by omega)
        obtain ⟨s5, hs5⟩ : ∃ s5, s5 = mx xd % 5 := ⟨_, rfl⟩
        rw [← hs5] at i5 m1 m2 w2'
        go_upto_block 2 with fail
        go_cut [3, 10] (fun dv ov wz => ∃ (A : DiA) (F : ByteArray → Option Nat) (N : List ByteArray) (base : Nat) (v : Value) (L : List Ent), dv = .pointer (some ⟨A.db, 0, none⟩) ∧ ov = .bool true ∧ Hid (Lw w wz A F N mb base v (.int .i64 (A.nb : Int)) v L (n + 1)))
        case first =>
          by_cases h0 : s5 = 0
          · have hb0 : (s5 == 0) = true := by simpa using h0
            clear h0
            go_upto_region 14 with fail
            clear hb0
            clear c0 hmx hd0 i5 m1 m2 w2' hs5
            cases hnT : nameP T.data.toList with
            | false =>
              as_aux_lemma =>
                have z1 := HT.out.cell 1
                go_wp2_with fail
                refine (dput_name A.db T xz hnT).mono ?_
                rintro e w8 ⟨rfl, g8⟩
                have H8 := Lib.hid (And.intro (HD.out.gr0 g8) (HT.out.gr0 g8))
                clear g8 HD HT z1
                have c1 := H8.out.2.cell 1
                have q0 := H8.out.1.m.cell 0
                have q1 := H8.out.1.m.cell 1
                go_wp2_with fail
                refine (rput_err (ao := ao2) (cap := cap2) (nb := A.nb) (L := L) T xz (by have := HTs.out; omega) 18 (.inl ⟨hnT, rfl⟩)).mono ?_
                rintro e w9 ⟨rfl, g9⟩
                have HN := Lib.hid (H8.out.1.gr0 g9).more
                clear g9 H8 c1 q0 q1
                have HDa := Lib.hid (HN.out.gr0 ((Gr.refl [] w9).alloc (Obj.cells #[.slice ao2 L.length cap2, .int .i64 (A.nb : Int)] 27)))
                have o0 : (w9.alloc (Obj.cells #[.slice ao2 L.length cap2, .int .i64 (A.nb : Int)] 27)).cell? ⟨mb, 0, none⟩ = _ := HDa.out.m.cell 0
                have o1 : (w9.alloc (Obj.cells #[.slice ao2 L.length cap2, .int .i64 (A.nb : Int)] 27)).cell? ⟨mb, 1, none⟩ = _ := HDa.out.m.cell 1
                have fr0 := HDa.out.m.frozen 0
                have fr1 := HDa.out.m.frozen 1
                have HE := Lib.hid HDa.out.store
                clear HN HDa
                go_wp2_with fail
                go_meet
                exact ⟨_, _, _, _, _, _, rfl, rfl, HE⟩
            | true =>
              by_cases hk : 0 ≤ xz ∧ xz ≤ 65535
              · as_aux_lemma =>
                  obtain ⟨k, rfl⟩ : ∃ k : Nat, xz = (k : Int) := ⟨xz.toNat, by omega⟩
                  have hk2 : k ≤ 65535 := by omega
                  clear hk
                  have z1 := HT.out.cell 1
                  go_wp2_with fail
                  refine (dput_ok HD.out.d T k hnT hk2 (by have := HD.out.nb; omega)).mono ?_
                  rintro e w8 ⟨rfl, A2, e2, n2, d2, l2, g8⟩
                  have hge := grow_eq (k := k) HD.out d2.ok
                  rw [← n2] at hge
                  have HM := Lib.hid (HD.out.mid g8)
                  have HR := Lib.hid (rput_ok (nb := A.nb) HM.out.1 HD.out.s.up (by have h1 := HD.out.ll; have h2 := HD.out.len; have h3 := HN60.out; omega) (by have := HD.out.nb; omega) HM.out.2.2 T k hnT hk2)
                  rw [hge] at HR
                  have c1 := (HT.out.gr g8 fun q => HTb.out.1 _ q rfl).cell 1
                  have q0 := HM.out.2.1.cell 0
                  have q1 := HM.out.2.1.cell 1
                  have HP := Lib.hid (fun w9 v' (he : EntR w9 w8.heap.size v' (insE L T k)) (g9 : Gr [] w8 w9) => HD.out.put (by have := HN60.out; omega) hnT hk2 n2 d2 l2 g8 he g9)
                  have HE2 := Lib.hid e2
                  clear n2 d2 l2 g8 hge HM HD HT e2 hnT z1
                  go_wp2_with fail
                  refine HR.out.mono ?_
                  rintro e w9 ⟨ao3, cap3, rfl, he, g9⟩
                  have HN := Lib.hid (HP.out _ _ he g9)
                  clear he g9 HP HR c1 q0 q1
                  have HDa := Lib.hid (HN.out.gr0 ((Gr.refl [] w9).alloc (Obj.cells #[.slice ao3 (insE L T k).length cap3, .int .i64 (A2.nb : Int)] 27)))
                  have o0 : (w9.alloc (Obj.cells #[.slice ao3 (insE L T k).length cap3, .int .i64 (A2.nb : Int)] 27)).cell? ⟨mb, 0, none⟩ = _ := HDa.out.m.cell 0
                  have o1 : (w9.alloc (Obj.cells #[.slice ao3 (insE L T k).length cap3, .int .i64 (A2.nb : Int)] 27)).cell? ⟨mb, 1, none⟩ = _ := HDa.out.m.cell 1
                  have fr0 := HDa.out.m.frozen 0
                  have fr1 := HDa.out.m.frozen 1
                  have HE := Lib.hid HDa.out.store
                  clear HN HDa
                  go_wp2_with fail
                  go_meet
                  exact ⟨A2, _, _, _, _, _, by rw [HE2.out], rfl, HE⟩
              · as_aux_lemma =>
                  have z1 := HT.out.cell 1
                  go_wp2_with fail
                  refine (dput_num A.db T xz hnT hk).mono ?_
                  rintro e w8 ⟨rfl, g8⟩
                  have H8 := Lib.hid (And.intro (HD.out.gr0 g8) (HT.out.gr0 g8))
                  clear g8 HD HT z1
                  have c1 := H8.out.2.cell 1
                  have q0 := H8.out.1.m.cell 0
                  have q1 := H8.out.1.m.cell 1
                  go_wp2_with fail
                  refine (rput_err (ao := ao2) (cap := cap2) (nb := A.nb) (L := L) T xz (by have := HTs.out; omega) 2 (.inr ⟨hnT, hk, rfl⟩)).mono ?_
                  rintro e w9 ⟨rfl, g9⟩
                  have HN := Lib.hid (H8.out.1.gr0 g9).more
                  clear g9 H8 c1 q0 q1 hk
                  have HDa := Lib.hid (HN.out.gr0 ((Gr.refl [] w9).alloc (Obj.cells #[.slice ao2 L.length cap2, .int .i64 (A.nb : Int)] 27)))
                  have o0 : (w9.alloc (Obj.cells #[.slice ao2 L.length cap2, .int .i64 (A.nb : Int)] 27)).cell? ⟨mb, 0, none⟩ = _ := HDa.out.m.cell 0
                  have o1 : (w9.alloc (Obj.cells #[.slice ao2 L.length cap2, .int .i64 (A.nb : Int)] 27)).cell? ⟨mb, 1, none⟩ = _ := HDa.out.m.cell 1
                  have fr0 := HDa.out.m.frozen 0
                  have fr1 := HDa.out.m.frozen 1
                  have HE := Lib.hid HDa.out.store
                  clear HN HDa
                  go_wp2_with fail
                  go_meet
                  exact ⟨_, _, _, _, _, _, rfl, rfl, HE⟩
          by_cases h1 : s5 = 1
          · have hb0 : (s5 == 0) = false := by simp; omega
            have hb1 : (s5 == 1) = true := by simpa using h1
            clear h0 h1
            go_upto_region 14 with fail
            clear hb0 hb1
            clear c0 hmx hd0 i5 m1 m2 w2' hs5
            cases hnT : nameP T.data.toList with
            | false =>
              as_aux_lemma =>
                have z1 := HT.out.cell 1
                go_wp2_with fail
                refine (dput_name A.db T xz hnT).mono ?_
                rintro e w8 ⟨rfl, g8⟩
                have H8 := Lib.hid (And.intro (HD.out.gr0 g8) (HT.out.gr0 g8))
                clear g8 HD HT z1
                have c1 := H8.out.2.cell 1
                have q0 := H8.out.1.m.cell 0
                have q1 := H8.out.1.m.cell 1
                go_wp2_with fail
                refine (rput_err (ao := ao2) (cap := cap2) (nb := A.nb) (L := L) T xz (by have := HTs.out; omega) 18 (.inl ⟨hnT, rfl⟩)).mono ?_
                rintro e w9 ⟨rfl, g9⟩
                have HN := Lib.hid (H8.out.1.gr0 g9).more
                clear g9 H8 c1 q0 q1
                have HDa := Lib.hid (HN.out.gr0 ((Gr.refl [] w9).alloc (Obj.cells #[.slice ao2 L.length cap2, .int .i64 (A.nb : Int)] 27)))
                have o0 : (w9.alloc (Obj.cells #[.slice ao2 L.length cap2, .int .i64 (A.nb : Int)] 27)).cell? ⟨mb, 0, none⟩ = _ := HDa.out.m.cell 0
                have o1 : (w9.alloc (Obj.cells #[.slice ao2 L.length cap2, .int .i64 (A.nb : Int)] 27)).cell? ⟨mb, 1, none⟩ = _ := HDa.out.m.cell 1
                have fr0 := HDa.out.m.frozen 0
                have fr1 := HDa.out.m.frozen 1
                have HE := Lib.hid HDa.out.store
                clear HN HDa
                go_wp2_with fail
                go_meet
                exact ⟨_, _, _, _, _, _, rfl, rfl, HE⟩
            | true =>
              by_cases hk : 0 ≤ xz ∧ xz ≤ 65535
              · as_aux_lemma =>
                  obtain ⟨k, rfl⟩ : ∃ k : Nat, xz = (k : Int) := ⟨xz.toNat, by omega⟩
                  have hk2 : k ≤ 65535 := by omega
                  clear hk
                  have z1 := HT.out.cell 1
                  go_wp2_with fail
                  refine (dput_ok HD.out.d T k hnT hk2 (by have := HD.out.nb; omega)).mono ?_
                  rintro e w8 ⟨rfl, A2, e2, n2, d2, l2, g8⟩
                  have hge := grow_eq (k := k) HD.out d2.ok
                  rw [← n2] at hge
                  have HM := Lib.hid (HD.out.mid g8)
                  have HR := Lib.hid (rput_ok (nb := A.nb) HM.out.1 HD.out.s.up (by have h1 := HD.out.ll; have h2 := HD.out.len; have h3 := HN60.out; omega) (by have := HD.out.nb; omega) HM.out.2.2 T k hnT hk2)
                  rw [hge] at HR
                  have c1 := (HT.out.gr g8 fun q => HTb.out.1 _ q rfl).cell 1
                  have q0 := HM.out.2.1.cell 0
                  have q1 := HM.out.2.1.cell 1
                  have HP := Lib.hid (fun w9 v' (he : EntR w9 w8.heap.size v' (insE L T k)) (g9 : Gr [] w8 w9) => HD.out.put (by have := HN60.out; omega) hnT hk2 n2 d2 l2 g8 he g9)
                  have HE2 := Lib.hid e2
                  clear n2 d2 l2 g8 hge HM HD HT e2 hnT z1
                  go_wp2_with fail
                  refine HR.out.mono ?_
                  rintro e w9 ⟨ao3, cap3, rfl, he, g9⟩
                  have HN := Lib.hid (HP.out _ _ he g9)
                  clear he g9 HP HR c1 q0 q1
                  have HDa := Lib.hid (HN.out.gr0 ((Gr.refl [] w9).alloc (Obj.cells #[.slice ao3 (insE L T k).length cap3, .int .i64 (A2.nb : Int)] 27)))
                  have o0 : (w9.alloc (Obj.cells #[.slice ao3 (insE L T k).length cap3, .int .i64 (A2.nb : Int)] 27)).cell? ⟨mb, 0, none⟩ = _ := HDa.out.m.cell 0
                  have o1 : (w9.alloc (Obj.cells #[.slice ao3 (insE L T k).length cap3, .int .i64 (A2.nb : Int)] 27)).cell? ⟨mb, 1, none⟩ = _ := HDa.out.m.cell 1
                  have fr0 := HDa.out.m.frozen 0
                  have fr1 := HDa.out.m.frozen 1
                  have HE := Lib.hid HDa.out.store
                  clear HN HDa
                  go_wp2_with fail
                  go_meet
                  exact ⟨A2, _, _, _, _, _, by rw [HE2.out], rfl, HE⟩
              · as_aux_lemma =>
                  have z1 := HT.out.cell 1
                  go_wp2_with fail
                  refine (dput_num A.db T xz hnT hk).mono ?_
                  rintro e w8 ⟨rfl, g8⟩
                  have H8 := Lib.hid (And.intro (HD.out.gr0 g8) (HT.out.gr0 g8))
                  clear g8 HD HT z1
                  have c1 := H8.out.2.cell 1
                  have q0 := H8.out.1.m.cell 0
                  have q1 := H8.out.1.m.cell 1
                  go_wp2_with fail
                  refine (rput_err (ao := ao2) (cap := cap2) (nb := A.nb) (L := L) T xz (by have := HTs.out; omega) 2 (.inr ⟨hnT, hk, rfl⟩)).mono ?_
                  rintro e w9 ⟨rfl, g9⟩
                  have HN := Lib.hid (H8.out.1.gr0 g9).more
                  clear g9 H8 c1 q0 q1 hk
                  have HDa := Lib.hid (HN.out.gr0 ((Gr.refl [] w9).alloc (Obj.cells #[.slice ao2 L.length cap2, .int .i64 (A.nb : Int)] 27)))
                  have o0 : (w9.alloc (Obj.cells #[.slice ao2 L.length cap2, .int .i64 (A.nb : Int)] 27)).cell? ⟨mb, 0, none⟩ = _ := HDa.out.m.cell 0
                  have o1 : (w9.alloc (Obj.cells #[.slice ao2 L.length cap2, .int .i64 (A.nb : Int)] 27)).cell? ⟨mb, 1, none⟩ = _ := HDa.out.m.cell 1
                  have fr0 := HDa.out.m.frozen 0
                  have fr1 := HDa.out.m.frozen 1
                  have HE := Lib.hid HDa.out.store
                  clear HN HDa
                  go_wp2_with fail
                  go_meet
                  exact ⟨_, _, _, _, _, _, rfl, rfl, HE⟩
          by_cases h2 : s5 = 2
          · have hb0 : (s5 == 0) = false := by simp; omega
            have hb1 : (s5 == 1) = false := by simp; omega
            have hb2 : (s5 == 2) = true := by simpa using h2
            clear h0 h1 h2
            go_upto_region 18 with fail
            clear hb0 hb1 hb2
            clear c0 hmx hd0 i5 m1 m2 w2' hs5
            have hTm : T.size ≤ maxLen := by have := HTs.out; unfold maxLen; omega
            have hL9 : L.length ≤ 100000 := by have h1 := HD.out.ll; have h2 := HD.out.len; have h3 := HN60.out; omega
            rcases findE_of HD.out.s T with ⟨hF, hf⟩ | ⟨i, k, hi, hF, hf, hLi⟩
            · as_aux_lemma =>
                go_wp2_with fail
                refine (ddrop_no HD.out.d T hTm hF).mono ?_
                rintro e w8 ⟨rfl, g8⟩
                have H8 := Lib.hid (HD.out.gr0 g8)
                clear g8 HD HT
                have q0 := H8.out.m.cell 0
                have q1 := H8.out.m.cell 1
                go_wp2_with fail
                refine (rdrop_no H8.out.e hL9 T hf).mono ?_
                rintro e w9 ⟨rfl, g9⟩
                have HN := Lib.hid (H8.out.gr0 g9).more
                clear g9 H8 q0 q1 hf
                have HDa := Lib.hid (HN.out.gr0 ((Gr.refl [] w9).alloc (Obj.cells #[.slice ao2 L.length cap2, .int .i64 (A.nb : Int)] 27)))
                have o0 : (w9.alloc (Obj.cells #[.slice ao2 L.length cap2, .int .i64 (A.nb : Int)] 27)).cell? ⟨mb, 0, none⟩ = _ := HDa.out.m.cell 0
                have o1 : (w9.alloc (Obj.cells #[.slice ao2 L.length cap2, .int .i64 (A.nb : Int)] 27)).cell? ⟨mb, 1, none⟩ = _ := HDa.out.m.cell 1
                have fr0 := HDa.out.m.frozen 0
                have fr1 := HDa.out.m.frozen 1
                have HE := Lib.hid HDa.out.store
                clear HN HDa
                go_wp2_with fail
                go_meet
                exact ⟨_, _, _, _, _, _, rfl, rfl, HE⟩
            · as_aux_lemma =>
                go_wp2_with fail
                refine (ddrop_ok HD.out.d T hTm (by rw [hF]; rfl)).mono ?_
                rintro e w8 ⟨rfl, d2, g8⟩
                have HM := Lib.hid (HD.out.mid g8)
                have HR := Lib.hid (rdrop_ok (nb := A.nb) HM.out.1 hL9 HM.out.2.2 T i hf (HD.out.uniq hi (by rw [hLi])))
                have q0 := HM.out.2.1.cell 0
                have q1 := HM.out.2.1.cell 1
                have HP := Lib.hid (fun w9 v' (he : EntR w9 w8.heap.size v' (remE L T)) (g9 : Gr [] w8 w9) => HD.out.drop d2 g8 he g9)
                clear d2 g8 HM HD HT hf hF hLi hi
                go_wp2_with fail
                refine HR.out.mono ?_
                rintro e w9 ⟨ao3, cap3, rfl, he, g9⟩
                have HN := Lib.hid (HP.out _ _ he g9)
                clear he g9 HP HR q0 q1
                have HDa := Lib.hid (HN.out.gr0 ((Gr.refl [] w9).alloc (Obj.cells #[.slice ao3 (remE L T).length cap3, .int .i64 (A.nb : Int)] 27)))
                have o0 : (w9.alloc (Obj.cells #[.slice ao3 (remE L T).length cap3, .int .i64 (A.nb : Int)] 27)).cell? ⟨mb, 0, none⟩ = _ := HDa.out.m.cell 0
                have o1 : (w9.alloc (Obj.cells #[.slice ao3 (remE L T).length cap3, .int .i64 (A.nb : Int)] 27)).cell? ⟨mb, 1, none⟩ = _ := HDa.out.m.cell 1
                have fr0 := HDa.out.m.frozen 0
                have fr1 := HDa.out.m.frozen 1
                have HE := Lib.hid HDa.out.store
                clear HN HDa
                go_wp2_with fail
                go_meet
                exact ⟨_, _, _, _, _, _, rfl, rfl, HE⟩
          by_cases h3 : s5 = 3
          · have hb0 : (s5 == 0) = false := by simp; omega
            have hb1 : (s5 == 1) = false := by simp; omega
            have hb2 : (s5 == 2) = false := by simp; omega
            have hb3 : (s5 == 3) = true := by simpa using h3
            clear h0 h1 h2 h3
            go_upto_region 22 with fail
            clear hb0 hb1 hb2 hb3
            clear c0 hmx hd0 i5 m1 m2 w2' hs5
            have hTm : T.size ≤ maxLen := by have := HTs.out; unfold maxLen; omega
            have hL9 : L.length ≤ 100000 := by have h1 := HD.out.ll; have h2 := HD.out.len; have h3 := HN60.out; omega
            have HG := Lib.hid (dget_any HD.out.d T hTm)
            rcases findE_of HD.out.s T with ⟨hF, hf⟩ | ⟨i, k, hi, hF, hf, hLi⟩
            · as_aux_lemma =>
                rw [hF] at HG
                go_wp2_with fail
                refine HG.out.mono ?_
                rintro e w8 ⟨rfl, g8⟩
                have H8 := Lib.hid (HD.out.gr0 g8)
                clear g8 HD HT HG
                have q0 := H8.out.m.cell 0
                have q1 := H8.out.m.cell 1
                have HFd := Lib.hid (rfind_any L base (.slice ao2 L.length cap2) (A.nb : Int) T w8 H8.out.e (by omega))
                rw [hf] at HFd
                go_wp2_with fail
                refine HFd.out.mono ?_
                rintro e w9 ⟨rfl, g9⟩
                have HN := Lib.hid (H8.out.gr0 g9).more
                clear g9 H8 q0 q1 hf HFd
                go_wp2_with fail
                go_meet
                exact ⟨_, _, _, _, _, _, rfl, rfl, HN⟩
            · as_aux_lemma =>
                rw [hF] at HG
                go_wp2_with fail
                refine HG.out.mono ?_
                rintro e w8 ⟨rfl, g8⟩
                have H8 := Lib.hid (HD.out.gr0 g8)
                clear g8 HD HT HG
                have q0 := H8.out.m.cell 0
                have q1 := H8.out.m.cell 1
                have HFd := Lib.hid (rfind_any L base (.slice ao2 L.length cap2) (A.nb : Int) T w8 H8.out.e (by omega))
                rw [hf] at HFd
                go_wp2_with fail
                refine HFd.out.mono ?_
                rintro e w9 ⟨rfl, g9⟩
                have HN := Lib.hid (H8.out.gr0 g9).more
                clear g9 H8 q0 q1 hf HFd
                have q0 := HN.out.m.cell 0
                obtain ⟨g, cap4, e4, _, _, _, cn⟩ := HN.out.e.at' hi
                injection e4 with e41 _ e42
                subst e41
                rw [hLi] at cn
                have ib : (i : Int) < (L.length : Int) := by omega
                have ib0 : (0 : Int) ≤ (i : Int) := by omega
                clear hLi e42 hF
                go_wp2_with fail
                go_meet
                exact ⟨_, _, _, _, _, _, rfl, rfl, HN⟩
          · have hb0 : (s5 == 0) = false := by simp; omega
            have hb1 : (s5 == 1) = false := by simp; omega
            have hb2 : (s5 == 2) = false := by simp; omega
            have hb3 : (s5 == 3) = false := by simp; omega
            have hb4 : (s5 == 4) = true := by simp; omega
            clear h0 h1 h2 h3
            go_upto_region 26 with fail
            clear hb0 hb1 hb2 hb3 hb4
            clear c0 hmx hd0 i5 m1 m2 w2' hs5
            as_aux_lemma =>
                go_wp2_with fail
                refine (dcopy_any HD.out.d).mono ?_
                rintro e w8 ⟨A2, rfl, n2, d2, l2, g8⟩
                have H8 := Lib.hid (And.intro (HD.out.copy n2 d2 l2 g8) (And.intro (HD.out.gr0 g8) (And.intro (HO.out.gr0 g8) (show ∀ x ∈ A2.all, w7.heap.size ≤ x from l2))))
                have HW8 := Lib.hid g8.size
                have HNB := Lib.hid n2
                have HOl := Lib.hid (show ob < w7.heap.size from HO.out.lt)
                clear n2 d2 l2 g8 HT
                go_wp2_with fail
                refine (dput_cop H8.out.1.d (by have := H8.out.1.nb; omega)).mono ?_
                rintro e w9 ⟨rfl, A3, e3, n3, d3, l3, g9⟩
                have HE3 := Lib.hid e3
                clear e3
                have hge := grow_eq (k := 1) H8.out.1 d3.ok
                rw [← n3] at hge
                have HM := Lib.hid (H8.out.1.mid g9)
                have HW9 := Lib.hid g9
                have hfr : ∀ x ∈ A2.all, ob ≠ x ∧ ∀ y ∈ A.all, y ≠ x := fun x hx => ⟨by have h1 := H8.out.2.2.2 x hx; have h2 := HOl.out; omega, fun y hy => by have h1 := H8.out.2.2.2 x hx; have h2 := HD.out.d.lt y hy; omega⟩
                have HS9 := Lib.hid (show EntR w9 base (.slice ao2 L.length cap2) L ∧ DiIs w9 A F N ∧ Holds w9 ob #[.slice ao2 L.length cap2, .int .i64 (A.nb : Int)] 27 from ⟨HM.out.1, H8.out.2.1.d.gr g9 fun y hy q => (hfr y q).2 y hy rfl, H8.out.2.2.1.gr g9 fun q => (hfr ob q).1 rfl⟩)
                have HSm := Lib.hid (same_any HS9.out.2.1 HS9.out.1 HD.out.s rfl HD.out.sz (by have h1 := HD.out.len; have h2 := HN60.out; omega))
                rw [HNB.out] at hge
                have HGE := Lib.hid hge
                have HP := Lib.hid (fun w' v' w10 (g10 : Gr [] w9 w10) (he : EntR w' w10.heap.size v' (insE L copS 1)) (g' : Gr [] w10 w') => H8.out.1.put (by have := HN60.out; omega) copS_name (by omega) n3 (d3.gr0 g10) l3 (g9.next0 g10) he g')
                have HUp := Lib.hid (And.intro HD.out.s.up (And.intro (show L.length ≤ 100000 by have h1 := HD.out.ll; have h2 := HD.out.len; have h3 := HN60.out; omega) (show A.nb ≤ 65536 by have := HD.out.nb; omega)))
                have b0 := HS9.out.2.2.cell 0
                have b1 := HS9.out.2.2.cell 1
                clear n3 d3 l3 g9 hfr HW9 HD H8 HO hge
                go_wp2_with fail
                refine HSm.out.mono ?_
                rintro e w10 ⟨rfl, g10⟩
                have HR := Lib.hid (rput_cop (nb := A.nb) (HM.out.1.gr0 g10) HUp.out.1 HUp.out.2.1 HUp.out.2.2 (fun x hx => Nat.lt_of_lt_of_le (HM.out.2.2 x hx) g10.size))
                rw [HGE.out] at HR
                have HM2 := Lib.hid (HM.out.2.1.gr0 g10)
                have HP2 := Lib.hid (fun w' v' (he : EntR w' w10.heap.size v' (insE L copS 1)) (g' : Gr [] w10 w') => HP.out w' v' w10 g10 he g')
                have q0 := HM2.out.cell 0
                have q1 := HM2.out.cell 1
                clear g10 HSm HP HUp HM HM2 HGE b0 b1 HS9
                go_wp2_with fail
                refine HR.out.mono ?_
                rintro e w11 ⟨ao3, cap3, rfl, he, g11⟩
                have HN := Lib.hid (HP2.out _ _ he g11)
                skip
                clear he g11 HP2 HR q0 q1
                have q0 := HN.out.m.cell 0
                have q1 := HN.out.m.cell 1
                have fr0 := HN.out.m.frozen 0
                have fr1 := HN.out.m.frozen 1
                have HE := Lib.hid HN.out.store
                clear HN
                go_wp2_with fail
                go_meet
                exact ⟨A3, _, _, _, _, _, by rw [HE3.out], rfl, HE⟩
        case rest =>
          obtain ⟨A, F, N, base, v, L, rfl, rfl, HD⟩ := hcut
          obtain ⟨ao2, cap2, hv2⟩ := HD.out.e.shape
          subst hv2
          have q0 := HD.out.m.cell 0
          have q1 := HD.out.m.cell 1
          have HSm := Lib.hid (HD.out.same (by have := HN60.out; omega))
          go_wp2_with fail
          refine HSm.out.mono ?_
          rintro e w8 ⟨rfl, g8⟩
          have HE := Lib.hid (HD.out.gr0 g8)
          clear g8 HD HSm q0 q1
          have hn60 := HN60.out
          have hnm := HNM.out
          go_wp2_with fail
          go_roundw
          case rel => exact ⟨n + 1, _, _, _, _, _, _, HNM.out, by go_num, rfl, HE⟩
          case measure => have := HNM.out; simp [intOf]; omega
      · obtain rfl : n = M := by omega
        have HG := Lib.hid HA.out.gr
        clear HA
        go_wp2_with fail
        go_ret
        exact ⟨rfl, HG.out⟩
theorem walk_DirPlays {w : World} (v0 : Value) (h0 : SlD w v0) : Calls Tryd.prog 3 #[v0] w fun e w' => e = .returned (.bool true) ∧ Below w.heap.size w w' :=
  (dplays_law v0 h0).mono fun _ _ q => ⟨q.1, q.2.below0⟩
end Go.Proofs.YtefiapmgdjlnnaaDoor
