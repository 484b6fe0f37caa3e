/-
  DnAh: DiF, DiG, Frame.
-/
import Derived.Test.YtefiapmgdjlnnaaDoorDnAg
import Derived.Shelf.Strconv.Itoa3
import Derived.Ground.NamesProg
import Derived.Test.YtefiapmgdjlnnaaDoorRows
import Derived.WalkKit
import Derived.ProofKit
import Derived.OpenShut
import Derived.SizedLaws

set_option linter.unusedVariables false

/-
  Layer 17 (dir): numerals as names; Buckets; what a nil directory answers; what wakes asks.
-/
namespace Go.Proofs.YtefiapmgdjlnnaaDoor
open Go.RowKit Go.Shelf
set_option linter.unusedVariables false

def DiF.ito_ren : Go.Shelf.Ren := ⟨fun | 171 => 25 | 243 => 38 | 246 => 46 | 283 => 64 | 284 => 65 | 285 => 66 | 286 => 67 | 129 => 63 | 317 => 78 | 318 => 79 | 319 => 80 | 320 => 81 | 337 => 86 | 338 => 87 | n => n, fun | 3 => 3 | 9 => 9 | 2 => 2 | 4 => 4 | 171 => 106 | 0 => 0 | 53 => 73 | 37 => 81 | 5 => 5 | 173 => 108 | 212 => 122 | 51 => 104 | 20 => 20 | 213 => 123 | 46 => 84 | 232 => 129 | 233 => 130 | n => n, fun | 17 => 0 | 18 => 2 | 19 => 3 | n => n⟩
theorem DiF.ito : Go.Proofs.LaysM.n171 Tryd.prog DiF.ito_ren where
  mixed := by kernel_rfl
  f129 := Tryd.func63.trans (congrArg some (by kernel_rfl))
  f171 := Tryd.func25.trans (congrArg some (by kernel_rfl))
  f243 := Tryd.func38.trans (congrArg some (by kernel_rfl))
  f246 := Tryd.func46.trans (congrArg some (by kernel_rfl))
  f283 := Tryd.func64.trans (congrArg some (by kernel_rfl))
  f284 := Tryd.func65.trans (congrArg some (by kernel_rfl))
  f285 := Tryd.func66.trans (congrArg some (by kernel_rfl))
  f286 := Tryd.func67.trans (congrArg some (by kernel_rfl))
  f317 := Tryd.func78.trans (congrArg some (by kernel_rfl))
  f318 := Tryd.func79.trans (congrArg some (by kernel_rfl))
  f319 := Tryd.func80.trans (congrArg some (by kernel_rfl))
  f320 := Tryd.func81.trans (congrArg some (by kernel_rfl))
  f337 := Tryd.func86.trans (congrArg some (by kernel_rfl))
  f338 := Tryd.func87.trans (congrArg some (by kernel_rfl))
  t0 := Tryd.underlying0
  a0 := Tryd.isAgg0
  z0 := Tryd.sizeOf0
  v0 := Tryd.zeroValue0
  t2 := Tryd.underlying2
  a2 := Tryd.isAgg2
  z2 := Tryd.sizeOf2
  v2 := Tryd.zeroValue2
  t3 := Tryd.underlying3
  a3 := Tryd.isAgg3
  z3 := Tryd.sizeOf3
  v3 := Tryd.zeroValue3
  t4 := Tryd.underlying4
  a4 := Tryd.isAgg4
  z4 := Tryd.sizeOf4
  v4 := Tryd.zeroValue4
  t5 := Tryd.underlying5
  a5 := Tryd.isAgg5
  z5 := Tryd.sizeOf5
  v5 := Tryd.zeroValue5
  t9 := Tryd.underlying9
  a9 := Tryd.isAgg9
  z9 := Tryd.sizeOf9
  v9 := Tryd.zeroValue9
  t20 := Tryd.underlying20
  a20 := Tryd.isAgg20
  z20 := Tryd.sizeOf20
  v20 := Tryd.zeroValue20
  t37 := Tryd.underlying81
  a37 := Tryd.isAgg81
  z37 := Tryd.sizeOf81
  v37 := Tryd.zeroValue81
  t46 := Tryd.underlying84
  a46 := Tryd.isAgg84
  z46 := Tryd.sizeOf84
  v46 := Tryd.zeroValue84
  t51 := Tryd.underlying104
  a51 := Tryd.isAgg104
  z51 := Tryd.sizeOf104
  v51 := Tryd.zeroValue104
  t53 := Tryd.underlying73
  a53 := Tryd.isAgg73
  z53 := Tryd.sizeOf73
  v53 := Tryd.zeroValue73
  t171 := Tryd.underlying106
  a171 := Tryd.isAgg106
  z171 := Tryd.sizeOf106
  v171 := Tryd.zeroValue106
  t173 := Tryd.underlying108
  a173 := Tryd.isAgg108
  z173 := Tryd.sizeOf108
  v173 := Tryd.zeroValue108
  t212 := Tryd.underlying122
  a212 := Tryd.isAgg122
  z212 := Tryd.sizeOf122
  v212 := Tryd.zeroValue122
  t213 := Tryd.underlying123
  a213 := Tryd.isAgg123
  z213 := Tryd.sizeOf123
  t232 := Tryd.underlying129
  a232 := Tryd.isAgg129
  z232 := Tryd.sizeOf129
  v232 := Tryd.zeroValue129
  t233 := Tryd.underlying130
  a233 := Tryd.isAgg130
  z233 := Tryd.sizeOf130
  v233 := Tryd.zeroValue130
  g17 := by kernel_rfl
  g18 := by kernel_rfl
  g19 := by kernel_rfl
  i0 := by kernel_rfl
  i2 := by kernel_rfl
  i3 := by kernel_rfl
  i4 := by kernel_rfl
  i5 := by kernel_rfl
  i9 := by kernel_rfl
  i20 := by kernel_rfl
  i37 := by kernel_rfl
  i46 := by kernel_rfl
  i51 := by kernel_rfl
  i53 := by kernel_rfl
  i171 := by kernel_rfl
  i173 := by kernel_rfl
  i212 := by kernel_rfl
  i232 := by kernel_rfl
  i233 := by kernel_rfl
  m17 := by kernel_rfl
  m18 := by kernel_rfl
  m19 := by kernel_rfl
theorem DiF.fIto : DiF.ito_ren.f 171 = 25 := rfl
theorem dec_small {i : Nat} (h : i < 10) : Lib.decDigits i = [UInt8.ofNat (48 + i)] := by rw [Lib.decDigits, dif_pos h]
theorem dec_big {i : Nat} (h : ¬ i < 10) : Lib.decDigits i = Lib.decDigits (i / 10) ++ [UInt8.ofNat (48 + i % 10)] := by rw [Lib.decDigits, dif_neg h]
theorem dig_toNat {d : Nat} (h : d < 10) : (UInt8.ofNat (48 + d)).toNat = 48 + d := by rw [UInt8.toNat_ofNat']; omega
theorem dec_bytes : ∀ (k i : Nat), i < k → ∀ c ∈ Lib.decDigits i, 48 ≤ c.toNat ∧ c.toNat ≤ 57
  | 0, i, h, _, _ => by omega
  | k + 1, i, h, c, hc => by
    by_cases h1 : i < 10
    · rw [dec_small h1, List.mem_singleton] at hc
      rw [hc, dig_toNat h1]; omega
    · rw [dec_big h1, List.mem_append, List.mem_singleton] at hc
      rcases hc with hc | hc
      · exact dec_bytes k (i / 10) (by omega) c hc
      · rw [hc, dig_toNat (by omega)]; omega
def decV (l : List UInt8) : Nat := l.foldl (fun a b => 10 * a + (b.toNat - 48)) 0
theorem dec_val : ∀ (k i : Nat), i < k → decV (Lib.decDigits i) = i
  | 0, i, h => by omega
  | k + 1, i, h => by
    by_cases h1 : i < 10
    · rw [dec_small h1]
      show 10 * 0 + ((UInt8.ofNat (48 + i)).toNat - 48) = i
      rw [dig_toNat h1]; omega
    · have e := dec_val k (i / 10) (by omega)
      rw [dec_big h1]
      unfold decV at e ⊢
      rw [List.foldl_append, e]
      show 10 * (i / 10) + ((UInt8.ofNat (48 + i % 10)).toNat - 48) = i
      rw [dig_toNat (by omega)]; omega
theorem dec_inj {i j : Nat} (h : Lib.decDigits i = Lib.decDigits j) : i = j := by rw [← dec_val _ i (Nat.lt_succ_self i), h, dec_val _ j (Nat.lt_succ_self j)]
theorem dec_len : ∀ (k i : Nat), i < 10 ^ (k + 1) → 1 ≤ (Lib.decDigits i).length ∧ (Lib.decDigits i).length ≤ k + 1
  | 0, i, h => by rw [dec_small (by simpa using h)]; simp
  | k + 1, i, h => by
    by_cases h1 : i < 10
    · rw [dec_small h1]; simp
    · have e := dec_len k (i / 10) (by rw [Nat.pow_succ] at h; omega)
      rw [dec_big h1, List.length_append]
      simp only [List.length_cons, List.length_nil]
      omega
/-- A letter and a numeral. -/
def nmI (p : UInt8) (i : Nat) : ByteArray := (⟨#[p]⟩ : ByteArray) ++ ⟨(Lib.decDigits i).toArray⟩
theorem nmI_list (p : UInt8) (i : Nat) : (nmI p i).data.toList = p :: Lib.decDigits i := by
  unfold nmI
  rw [ByteArray.data_append, Array.toList_append]
  rfl
theorem nmI_inj {p : UInt8} {i j : Nat} (h : nmI p i = nmI p j) : i = j := by
  have e := congrArg (fun s : ByteArray => s.data.toList) h
  simp only [nmI_list] at e
  exact dec_inj (List.cons.inj e).2
theorem nmI_name {p : UInt8} {i : Nat} (h0 : p ≠ 0) (h1 : p ≠ 47) (hi : i < 100000) : nameP (nmI p i).data.toList = true := by
  rw [nmI_list]
  have hl := dec_len 4 i (by omega)
  have hb := dec_bytes _ i (Nat.lt_succ_self i)
  obtain ⟨d, r, hd⟩ : ∃ d r, Lib.decDigits i = d :: r := by
    cases e : Lib.decDigits i with
    | nil => rw [e] at hl; simp at hl
    | cons d r => exact ⟨d, r, rfl⟩
  have hd1 := hb d (by rw [hd]; exact List.mem_cons_self ..)
  have a1 : decide (1 ≤ (p :: Lib.decDigits i).length) = true := decide_eq_true (by simp)
  have a2 : decide ((p :: Lib.decDigits i).length ≤ 32) = true := decide_eq_true (by simp; omega)
  have a3 : decide (p :: Lib.decDigits i ≠ [46]) = true := decide_eq_true (by rw [hd]; simp)
  have a4 : decide (p :: Lib.decDigits i ≠ [46, 46]) = true := decide_eq_true (by
    rw [hd]
    intro e
    have := (List.cons.inj (List.cons.inj e).2).1
    subst this
    exact absurd hd1.1 (by decide))
  have a5 : (p :: Lib.decDigits i).all (fun b => decide (b ≠ 0) && decide (b ≠ 47)) = true := by
    rw [List.all_eq_true]
    intro b hb2
    rcases List.mem_cons.1 hb2 with rfl | hb2
    · simp [h0, h1]
    · have := hb b hb2
      have n0 : b ≠ 0 := fun e => by subst e; exact absurd this.1 (by decide)
      have n1 : b ≠ 47 := fun e => by subst e; exact absurd this.1 (by decide)
      simp [n0, n1]
  unfold nameP
  rw [a1, a2, a3, a4, a5]
  rfl
theorem itoa_sm (i : Nat) (hi : i < 100) (w : World) : Calls Tryd.prog 25 #[.int .i64 (i : Int)] w fun e w' => e = .returned (.string ⟨(Lib.decDigits i).toArray⟩) ∧ w' = w := by
  have h := Any.strconv_Itoa_small { DiF.ito with } i hi w
  rw [DiF.fIto] at h
  exact h
section
variable {w : World} {A : DiA} {F : ByteArray → Option Nat} {N : List ByteArray}
theorem infoI17 : (Tryd.prog.info? 3).map (fun i => (i.zero, i.size, i.bytes)) = some (some (.int .i64 0), 1, 8) := by kernel_rfl
set_option maxHeartbeats 8000000 in
set_option maxRecDepth 100000 in
theorem dbuckets_any (h : DiIs w A F N) : Calls Tryd.prog 23 #[.pointer (some ⟨A.db, 0, none⟩)] w fun e w' => ∃ g cap, e = .returned (.slice (some ⟨g, 0, none⟩) A.nb cap) ∧ w.heap.size ≤ g ∧ g < w'.heap.size ∧ (∀ i, i < A.nb → w'.cell? ⟨g, i, none⟩ = some (.int .i64 (cntB A.nb i N : Int))) ∧ Gr [] w w' := by
  obtain ⟨i0, hi, hz0, hz1, hz2⟩ := info_parts infoI17
  have undMap : Tryd.prog.underlying 59 = some (.map 9 3) := Tryd.underlying59
  have c0 := h.hd.cell 0
  have HH := Lib.hid h
  obtain ⟨nb, hnb⟩ : ∃ nb, nb = A.nb := ⟨_, rfl⟩
  have HNB := Lib.hid hnb
  have HLE := Lib.hid (show 1 ≤ nb ∧ nb ≤ 65536 from by rw [hnb]; exact ⟨h.nb.1, h.nb.2.1⟩)
  rw [← hnb] at c0
  clear h hnb
  go_enter Tryd.func23, Tryd.ntmps23
  go_upto_region 5 with fail
  go_loopw [3, 13] (fun v z wr => ∃ k : Nat, k ≤ nb ∧ z = .int .i64 (k : Int) ∧ wr.ownsRow w.heap.size 3 1 v k ((List.range k).map fun i => .int .i64 (cntB nb i N : Int)) ∧ Gr [] w wr) (fun _ z _ => nb - (intOf z).toNat)
  case atStart => exact ⟨0, by omega, rfl, World.ownsRow_nil _ _ _ _, Gr.refl _ _⟩
  case round =>
    obtain ⟨k, hk, rfl, hown, g⟩ := hrel
    have hnb := HLE.out
    by_cases hlt : k < nb
    · as_aux_lemma =>
        have H2 := HH.out.gr0 g
        have ck := H2.bk.at' k (by rw [← HNB.out]; exact hlt)
        have hln := fun ty => (H2.bk.mp k (by rw [← HNB.out]; exact hlt)).len undMap ty
        rw [← HNB.out] at hln
        have b1 : (k : Int) < (nb : Int) := by omega
        have b2 : (0 : Int) ≤ (k : Int) := by omega
        have hsz := g.size
        have HG := Lib.hid (And.intro hown g)
        clear g H2
        go_wp2_with (at_builtin; refine wpList_append_own _ rfl _ _ 51 rfl w.heap.size 3 i0 (.int .i64 0) 1 8 Tryd.underlying51 hi hz0 hz1 hz2 rfl (by decide) _ _ _ rfl (hown.alloc _) ⟨wr.heap.size, 0, none⟩ 1 1 [.int .i64 (cntB nb k N : Int)] rfl rfl ?c1 ?c2 ?c3 ?c4 ?c5 ?_)
        case c1 =>
          intro a u ha
          match a, ha with
          | 0, ha => simp at ha; subst ha; simp [Addr.add]
        case c2 => intro u hu; simp at hu; subst hu; rfl
        case c3 => unfold maxLen; omega
        case c4 => omega
        case c5 => simp; omega
        intro v' w17 hown3 hgrow _
        have HN2 := Lib.hid (show w17.ownsRow w.heap.size 3 1 v' (k + 1) ((List.range (k + 1)).map fun i => .int .i64 (cntB nb i N : Int)) ∧ Gr [] w w17 from by
          refine ⟨?_, ?_⟩
          · rw [List.range_succ, List.map_append]
            exact hown3
          · exact ((HG.out.2.alloc _).grown hgrow (fun x hx => .inr (hown.lt x hx).1)))
        clear hown3 hgrow hown ck hi hz0 hz1 hz2
        go_wp2_with fail
        go_roundw
        case rel => exact ⟨k + 1, by omega, by go_num, HN2.out.1, HN2.out.2⟩
        case measure => simp [intOf]; omega
    · obtain rfl : k = nb := by omega
      obtain ⟨gb, cap, hv, h1, h2⟩ : ∃ gb cap, u3 = .slice (some ⟨gb, 0, none⟩) k cap ∧ w.heap.size ≤ gb ∧ gb < wr.heap.size := by
        rcases hown.2 with ⟨_, h0⟩ | ⟨gb, cap, cur, hv, hb, hg, _⟩
        · omega
        · exact ⟨gb, cap, hv, hb, (Array.getElem?_eq_some_iff.1 hg).1⟩
      subst hv
      have HC := Lib.hid (show ∀ i, i < k → wr.cell? ⟨gb, i, none⟩ = some (.int .i64 (cntB k i N : Int)) from fun i hi => by
        rw [World.ownsRow.cellAt hown i (by omega), List.getElem?_map, List.getElem?_range hi]
        rfl)
      clear hown hlt hk
      go_wp2_with fail
      go_ret
      rw [← HNB.out]
      exact ⟨gb, cap, rfl, h1, h2, HC.out, g⟩
end
/-- What wakes17 has behind i names. -/
structure Wk (w wr : World) (A : DiA) (F : ByteArray → Option Nat) (N : List ByteArray) (i : Nat) : Prop where
  is : DiIs wr A F N
  gr : Gr [] w wr
  lo : ∀ x ∈ A.all, w.heap.size ≤ x
  ge : ∀ j, j < i → F (nmI 110 j) = some j
  le : ∀ s, (F s).isSome = true → ∃ j, j < i ∧ s = nmI 110 j
  nl : N.length = i
  nb : A.nb = if i ≤ 16 then 4 else 8
theorem Wk.step {w wr w2 : World} {A A' : DiA} {F : ByteArray → Option Nat} {N : List ByteArray} {i : Nat} (h : Wk w wr A F N i) (hi : i < 17) (h1 : A'.nb = growB A.nb F N (nmI 110 i)) (h2 : DiIs w2 A' (updT F (nmI 110 i) (some i)) (putN F N (nmI 110 i))) (h3 : ∀ x ∈ A'.all, x ∈ A.all ∨ wr.heap.size ≤ x) (h4 : Gr A.all wr w2) : Wk w w2 A' (updT F (nmI 110 i) (some i)) (putN F N (nmI 110 i)) (i + 1) := by
  have hn : (F (nmI 110 i)).isSome = false := by
    cases e : (F (nmI 110 i)).isSome with
    | false => rfl
    | true =>
      obtain ⟨j, hj, hs⟩ := h.le _ e
      have := nmI_inj hs
      omega
  have hs := h.gr.size
  refine ⟨h2, h.gr.nextN h4 fun x hx => .inr (h.lo x hx), fun x hx => ?_, fun j hj => ?_, fun s hs => ?_, ?_, ?_⟩
  · rcases h3 x hx with q | q
    · exact h.lo x q
    · omega
  · unfold updT
    by_cases e : j = i
    · subst e; rw [if_pos rfl]
    · rw [if_neg fun q => e (nmI_inj q)]
      exact h.ge j (by omega)
  · unfold updT at hs
    by_cases e : s = nmI 110 i
    · exact ⟨i, by omega, e⟩
    · rw [if_neg e] at hs
      obtain ⟨j, hj, q⟩ := h.le s hs
      exact ⟨j, by omega, q⟩
  · unfold putN
    rw [hn, if_neg (by simp), List.length_cons, h.nl]
  · rw [h1]
    unfold growB
    rw [hn, if_neg (by simp), h.nl, h.nb, if_pos (show i ≤ 16 by omega)]
    by_cases e : i ≤ 15
    · rw [if_neg (by omega), if_pos (by omega)]
    · rw [if_pos (by omega), if_neg (by omega)]
set_option maxHeartbeats 8000000 in
set_option maxRecDepth 100000 in
theorem wakes17 (w : World) : Calls Tryd.prog 8 #[] w fun e w' => e = .returned (.bool true) ∧ Gr [] w w' := by
  have HNw := Lib.hid (dnew_any w)
  go_enter Tryd.func8, Tryd.ntmps8
  go_wp2_with fail
  refine HNw.out.mono ?_
  rintro e w1 ⟨A, rfl, n1, d1, l1, g1⟩
  have H1 := Lib.hid (show Wk w w1 A (fun _ => none) [] 0 from ⟨d1, g1, l1, fun j hj => by omega, fun s hs => (by cases hs), rfl, n1⟩)
  clear HNw n1 d1 l1 g1
  obtain ⟨db, hdb⟩ : ∃ db, A.db = db := ⟨_, rfl⟩
  rw [hdb]
  have HDB := Lib.hid hdb
  clear hdb
  go_upto_region 3 with fail
  go_loopw [6] (fun z wr => ∃ (i : Nat) (A : DiA) (F : ByteArray → Option Nat) (N : List ByteArray), i ≤ 17 ∧ z = .int .i64 (i : Int) ∧ A.db = db ∧ Wk w wr A F N i) (fun z _ => 17 - (intOf z).toNat)
  case atStart => exact ⟨0, A, _, _, by omega, rfl, HDB.out, H1.out⟩
  case round =>
    clear H1 HDB A
    obtain ⟨i, A, F, N, hi, rfl, rfl, Q⟩ := hrel
    have HQ := Lib.hid Q
    clear Q
    by_cases hlt : i < 17
    · as_aux_lemma =>
        have hd : decide ((i : Int) < 17) = true := by simp; omega
        have HIt := Lib.hid (fun W => itoa_sm i (by omega) W)
        have HPt := Lib.hid (dput_ok HQ.out.is (nmI 110 i) i (nmI_name (by decide) (by decide) (by omega)) (by omega) (by rw [HQ.out.nb]; split <;> omega))
        obtain ⟨T, hT⟩ : ∃ T : ByteArray, T = ⟨(Lib.decDigits i).toArray⟩ := ⟨_, rfl⟩
        have hTs : T.size ≤ 100 := by
          have := dec_len 1 i (by omega)
          rw [hT]
          show (Lib.decDigits i).toArray.size ≤ 100
          rw [List.size_toArray]; omega
        have hs := fun (W : World) => (run_string_add_sum (P := Tryd.prog) (w := W) ⟨#[110]⟩ T (by rw [show (⟨#[110]⟩ : ByteArray).size = 1 from rfl]; omega)).trans (show _ = Result.ok (.string (nmI 110 i)) W from by rw [hT]; rfl)
        rw [← hT] at HIt
        clear hT
        go_wp2_with fail
        refine (HIt.out _).mono ?_
        rintro e w2 ⟨rfl, rfl⟩
        go_wp2_with fail
        refine HPt.out.mono ?_
        rintro e w3 ⟨rfl, A3, e3, n3, d3, l3, g3⟩
        have HN2 := Lib.hid (HQ.out.step hlt n3 d3 l3 g3)
        have HE := Lib.hid e3
        clear n3 d3 l3 g3 HPt HIt hs e3
        go_wp2_with fail
        go_roundw
        case rel => exact ⟨i + 1, A3, _, _, by omega, by go_num, HE.out, HN2.out⟩
        case measure => simp [intOf]; omega
    · obtain rfl : i = 17 := by omega
      have H0 := Lib.hid HQ.out.is
      have hnb : A.nb = 8 := HQ.out.nb
      have HG5 := Lib.hid (dget_any H0.out ⟨#[110, 53]⟩ (by decide))
      have e5 : F ⟨#[110, 53]⟩ = some 5 := by
        have := HQ.out.ge 5 (by omega)
        rw [show (⟨#[110, 53]⟩ : ByteArray) = nmI 110 5 from by unfold nmI; rw [dec_small (by omega)]; rfl]
        exact this
      have ex : F ⟨#[120]⟩ = none := by
        cases e : F ⟨#[120]⟩ with
        | none => rfl
        | some v =>
          obtain ⟨j, _, hs⟩ := HQ.out.le ⟨#[120]⟩ (by rw [e]; rfl)
          have e2 := congrArg (fun s : ByteArray => s.data.toList) hs
          simp only [nmI_list] at e2
          exact absurd (List.cons.inj e2).1 (by decide)
      rw [e5] at HG5
      have HX := Lib.hid ex
      have HGR := Lib.hid HQ.out.gr
      have HNL := Lib.hid HQ.out.nl
      have HLO := Lib.hid HQ.out.lo
      clear e5 ex hlt hi HQ
      go_wp2_with fail
      refine HG5.out.mono ?_
      rintro e w2 ⟨rfl, g2⟩
      have H2 := Lib.hid (And.intro (H0.out.gr0 g2) (HGR.out.next0 g2))
      have HL := Lib.hid (dlen_any H2.out.1)
      rw [HNL.out] at HL
      clear g2 HG5 H0 HGR
      go_wp2_with fail
      refine HL.out.mono ?_
      rintro e w3 ⟨rfl, rfl⟩
      have HBk := Lib.hid (dbuckets_any H2.out.1)
      rw [hnb] at HBk
      go_wp2_with fail
      refine HBk.out.mono ?_
      rintro e w4 ⟨gb, cap, rfl, _, _, _, g4⟩
      have H4 := Lib.hid (And.intro (H2.out.1.gr0 g4) (H2.out.2.next0 g4))
      clear g4 HBk H2 HL
      have HDr := Lib.hid (ddrop_no H4.out.1 ⟨#[120]⟩ (by decide) HX.out)
      go_wp2_with fail
      refine HDr.out.mono ?_
      rintro e w5 ⟨rfl, g5⟩
      have H5 := Lib.hid (H4.out.2.next0 g5)
      have HPd := Lib.hid (dput_name (w := w5) A.db ⟨#[46, 46]⟩ 1 (by decide))
      clear g5 HDr H4
      go_wp2_with fail
      refine HPd.out.mono ?_
      rintro e w6 ⟨rfl, g6⟩
      have H6 := Lib.hid (H5.out.next0 g6)
      clear g6 HPd H5
      go_wp2_with fail
      go_ret
      exact ⟨rfl, H6.out⟩
end Go.Proofs.YtefiapmgdjlnnaaDoor

/-
  Layer 17 (dir): nil directories; the encoding of an entry, by the program and by the document; Parse.
-/
namespace Go.Proofs.YtefiapmgdjlnnaaDoor
open Go.RowKit
set_option linter.unusedVariables false

section
variable {w : World}
set_option maxRecDepth 100000 in
theorem bucket_nil (s : ByteArray) (w : World) : Calls Tryd.prog 28 #[.pointer none, .string s] w fun e w' => e = .returned (.map none) ∧ w' = w := by
  go_enter Tryd.func28, Tryd.ntmps28
  go_wp2_with fail
  go_ret
  exact ⟨rfl, rfl⟩
set_option maxRecDepth 100000 in
theorem dget_nil (s : ByteArray) (hs : s.size ≤ maxLen) (w : World) : Calls Tryd.prog 13 #[.pointer none, .string s] w fun e w' => e = .returned (.tuple #[.int .i64 0, .bool false]) ∧ w' = w := by
  have hl := Maps.look_nil (w := w) (t := 59) true (Maps.string_keyed Tryd.underlying9) Tryd.underlying59 (niE.zero_run w) (tkey Tryd.underlying9 hs)
  go_enter Tryd.func13, Tryd.ntmps13
  go_wp2_with fail
  refine (bucket_nil s _).mono ?_
  rintro e w2 ⟨rfl, rfl⟩
  go_wp2_with fail
  go_ret2
  exact ⟨rfl, rfl⟩
set_option maxRecDepth 100000 in
theorem dput_nil (s : ByteArray) (n : Int) (w : World) : Calls Tryd.prog 9 #[.pointer none, .string s, .int .i64 n] w fun e w' => e = .returned (.int .i64 1) ∧ w' = w := by
  go_enter Tryd.func9, Tryd.ntmps9
  go_wp2_with fail
  go_ret
  exact ⟨rfl, rfl⟩
set_option maxRecDepth 100000 in
theorem ddrop_nil (s : ByteArray) (w : World) : Calls Tryd.prog 11 #[.pointer none, .string s] w fun e w' => e = .returned (.int .i64 1) ∧ w' = w := by
  go_enter Tryd.func11, Tryd.ntmps11
  go_wp2_with fail
  go_ret
  exact ⟨rfl, rfl⟩
set_option maxRecDepth 100000 in
theorem dcopy_nil (w : World) : Calls Tryd.prog 15 #[.pointer none] w fun e w' => e = .returned (.pointer none) ∧ w' = w := by
  go_enter Tryd.func15, Tryd.ntmps15
  go_wp2_with fail
  go_ret
  exact ⟨rfl, rfl⟩
set_option maxRecDepth 100000 in
theorem dlen_nil (w : World) : Calls Tryd.prog 21 #[.pointer none] w fun e w' => e = .returned (.int .i64 0) ∧ w' = w := by
  go_enter Tryd.func21, Tryd.ntmps21
  go_wp2_with fail
  go_ret
  exact ⟨rfl, rfl⟩
set_option maxRecDepth 100000 in
theorem dlist_nil (w : World) : Calls Tryd.prog 22 #[.pointer none] w fun e w' => e = .returned (.slice none 0 0) ∧ w' = w := by
  go_enter Tryd.func22, Tryd.ntmps22
  go_wp2_with fail
  go_ret
  exact ⟨rfl, rfl⟩
set_option maxRecDepth 100000 in
theorem dbuckets_nil (w : World) : Calls Tryd.prog 23 #[.pointer none] w fun e w' => e = .returned (.slice none 0 0) ∧ w' = w := by
  go_enter Tryd.func23, Tryd.ntmps23
  go_wp2_with fail
  go_ret
  exact ⟨rfl, rfl⟩
end
/-- A number in two bytes. -/
def pt2 (n : Nat) : ByteArray := ⟨(putL n 2).toArray⟩
theorem pt2_size (n : Nat) : (pt2 n).size = 2 := by
  show (putL n 2).toArray.size = 2
  rw [List.size_toArray, putL_length]
/-- The encoding of an entry. -/
def txE (s : ByteArray) (n a : Int) : ByteArray := if nameP s.data.toList = true ∧ (0 ≤ n ∧ n ≤ 65535) ∧ (0 ≤ a ∧ a ≤ 65535) then pt2 a.toNat ++ pt2 n.toNat ++ s else ⟨#[]⟩
theorem put2 (n : Nat) (hn : n ≤ 65535) (W : World) : Calls Tryd.prog 32 #[.int .u64 (n : Int), .int .i64 2] W fun e w' => e = .returned (.string (pt2 n)) ∧ Below W.heap.size W w' := put_any n 2 W (by omega)
theorem rput2 (n : Nat) (hn : n ≤ 65535) (W : World) : Calls Tryd.prog 33 #[.int .u64 (n : Int), .int .i64 2] W fun e w' => e = .returned (.string (pt2 n)) ∧ Below W.heap.size W w' := rput_any n 2 W (by omega) (by omega) (by omega)
set_option maxHeartbeats 8000000 in
set_option maxRecDepth 100000 in
theorem etext_any (s : ByteArray) (n a : Int) (w : World) : Calls Tryd.prog 19 #[.agg #[.string s, .int .i64 n], .int .i64 a] w fun e w' => e = .returned (.string (txE s n a)) ∧ Below w.heap.size w w' := by
  have HN := Lib.hid (fun W => dname_str s W)
  have HA := Lib.hid (fun W => num17 n W)
  have HB := Lib.hid (fun W => num17 a W)
  have ht := Holds.new w #[.string s, .int .i64 n] 44
  have ga := (Gr.refl [] w).alloc (Obj.cells #[.string s, .int .i64 n] 44)
  have HT := Lib.hid (And.intro ht ga)
  clear ht ga
  go_enter Tryd.func19, Tryd.ntmps19
  go_upto_region 1 with fail
  generalize (w.alloc (Obj.cells #[.string s, .int .i64 n] 44)) = w1 at *
  obtain ⟨tb, htb⟩ : ∃ x, w.heap.size = x := ⟨_, rfl⟩
  rw [htb] at HT ⊢
  have HTB := Lib.hid htb
  clear htb
  have c0 := HT.out.1.cell 0
  by_cases hn : nameP s.data.toList = true
  · have e : nmE s.data.toList = 0 := by unfold nmE; rw [hn]; rfl
    rw [e] at HN
    clear e
    go_wp2_with fail
    refine (HN.out _).mono ?_
    rintro e w2 ⟨rfl, b2⟩
    have H2 := Lib.hid (And.intro (HT.out.1.gr0 (Gr.ofBelow (cs := []) b2)) (HT.out.2.next0 (Gr.ofBelow (cs := []) b2)))
    clear b2 HT c0
    have c0 := H2.out.1.cell 0
    have c1 := H2.out.1.cell 1
    by_cases h1 : 0 ≤ n ∧ n ≤ 65535
    · rw [decide_eq_true h1] at HA
      go_wp2_with fail
      refine (HA.out _).mono ?_
      rintro e w3 ⟨rfl, rfl⟩
      by_cases h2 : 0 ≤ a ∧ a ≤ 65535
      · rw [decide_eq_true h2] at HB
        obtain ⟨n0, rfl⟩ : ∃ k : Nat, n = (k : Int) := ⟨n.toNat, by omega⟩
        obtain ⟨a0, rfl⟩ : ∃ k : Nat, a = (k : Int) := ⟨a.toNat, by omega⟩
        have hn0 : n0 ≤ 65535 := by omega
        have ha0 : a0 ≤ 65535 := by omega
        have hS := nameP_size hn
        have HX := Lib.hid (show pt2 a0 ++ pt2 n0 ++ s = txE s (n0 : Int) (a0 : Int) from by unfold txE; rw [if_pos ⟨hn, by omega, by omega⟩]; rfl)
        have HPa := Lib.hid (fun W => put2 a0 ha0 W)
        have HPn := Lib.hid (fun W => put2 n0 hn0 W)
        obtain ⟨Pa, hPa⟩ : ∃ P, P = pt2 a0 := ⟨_, rfl⟩
        obtain ⟨Pn, hPn⟩ : ∃ P, P = pt2 n0 := ⟨_, rfl⟩
        have za : Pa.size = 2 := by rw [hPa, pt2_size]
        have zn : Pn.size = 2 := by rw [hPn, pt2_size]
        rw [← hPa] at HPa HX
        rw [← hPn] at HPn HX
        have v1 : ¬ 9223372036854775807 < Pa.size + Pn.size := by omega
        have v2 : ¬ 9223372036854775807 < (Pa ++ Pn).size + s.size := by rw [ByteArray.size_append]; omega
        have u1 : IntKind.u64.wrap (a0 : Int) = (a0 : Int) := IntWalk.u64_in _ (by omega)
        have u2 : IntKind.u64.wrap (n0 : Int) = (n0 : Int) := IntWalk.u64_in _ (by omega)
        clear hPa hPn hS h1 h2 hn HA
        go_wp2_with fail
        refine (HB.out _).mono ?_
        rintro e w4 ⟨rfl, rfl⟩
        go_upto_region 3 with fail
        have k0 := kp_cell c0
        have k1 := kp_cell c1
        have hne := kp_ne w4
        clear c0 c1
        refine wp_region_kp (by kernel_rfl) (by kernel_rfl) ?_
        repeat (go_big_quiet_step ((rename_i x; first | with_reducible exact kp_call x (HPa.out x.w) | with_reducible exact kp_call x (HPn.out x.w))))
        with_reducible refine wpQuiet_nil ?_
        rintro _ ⟨y, rfl⟩
        have gy := Gr.ofBelow (cs := []) y.h
        have H5 := Lib.hid (H2.out.2.next0 gy)
        clear k0 k1 hne gy H2 v1 v2 u1 u2
        generalize y.w = w5 at *
        clear y
        rw [HX.out]
        go_wp2_with fail
        go_ret
        exact ⟨rfl, H5.out.below0⟩
      · rw [decide_eq_false h2] at HB
        have HX := Lib.hid (show (⟨#[]⟩ : ByteArray) = txE s n a from by unfold txE; rw [if_neg fun q => h2 q.2.2])
        clear h1 h2 hn HA
        go_wp2_with fail
        refine (HB.out _).mono ?_
        rintro e w4 ⟨rfl, rfl⟩
        go_wp2_with fail
        go_ret
        rw [← HX.out]
        exact ⟨rfl, H2.out.2.below0⟩
    · rw [decide_eq_false h1] at HA
      have HX := Lib.hid (show (⟨#[]⟩ : ByteArray) = txE s n a from by unfold txE; rw [if_neg fun q => h1 q.2.1])
      clear h1 hn HB
      go_wp2_with fail
      refine (HA.out _).mono ?_
      rintro e w3 ⟨rfl, rfl⟩
      go_wp2_with fail
      go_ret
      rw [← HX.out]
      exact ⟨rfl, H2.out.2.below0⟩
  · have e : nmE s.data.toList = 18 := by unfold nmE; rw [if_neg hn]
    rw [e] at HN
    have HX := Lib.hid (show (⟨#[]⟩ : ByteArray) = txE s n a from by unfold txE; rw [if_neg fun q => hn q.1])
    clear e hn HA HB
    go_wp2_with fail
    refine (HN.out _).mono ?_
    rintro e w2 ⟨rfl, b2⟩
    have H2 := Lib.hid (HT.out.2.next0 (Gr.ofBelow (cs := []) b2))
    clear b2 HT c0
    go_wp2_with fail
    go_ret
    rw [← HX.out]
    exact ⟨rfl, H2.out.below0⟩
set_option maxHeartbeats 8000000 in
set_option maxRecDepth 100000 in
theorem retext_any (s : ByteArray) (n a : Int) (w : World) (hs : s.size ≤ 4294967280) : Calls Tryd.prog 20 #[.agg #[.string s, .int .i64 n], .int .i64 a] w fun e w' => e = .returned (.string (txE s n a)) ∧ Below w.heap.size w w' := by
  have HN := Lib.hid (fun W => show Calls Tryd.prog 18 #[.string s] W (fun e w' => e = .returned (.int .i64 (nmE s.data.toList)) ∧ w' = W) from rname_at s.data.toList W hs)
  have ht := Holds.new w #[.string s, .int .i64 n] 41
  have ga := (Gr.refl [] w).alloc (Obj.cells #[.string s, .int .i64 n] 41)
  have HT := Lib.hid (And.intro ht ga)
  clear ht ga
  go_enter Tryd.func20, Tryd.ntmps20
  go_upto_region 1 with fail
  generalize (w.alloc (Obj.cells #[.string s, .int .i64 n] 41)) = w1 at *
  obtain ⟨tb, htb⟩ : ∃ x, w.heap.size = x := ⟨_, rfl⟩
  rw [htb] at HT ⊢
  have HTB := Lib.hid htb
  clear htb
  have c0 := HT.out.1.cell 0
  have c1 := HT.out.1.cell 1
  go_wp2_with fail
  refine (HN.out _).mono ?_
  rintro e w2 ⟨rfl, rfl⟩
  by_cases hn : nameP s.data.toList = true
  · have e : nmE s.data.toList = 0 := by unfold nmE; rw [hn]; rfl
    rw [e]
    clear e
    by_cases h1 : 0 ≤ n ∧ n ≤ 65535
    · by_cases h2 : 0 ≤ a ∧ a ≤ 65535
      · obtain ⟨n0, rfl⟩ : ∃ k : Nat, n = (k : Int) := ⟨n.toNat, by omega⟩
        obtain ⟨a0, rfl⟩ : ∃ k : Nat, a = (k : Int) := ⟨a.toNat, by omega⟩
        have hn0 : n0 ≤ 65535 := by omega
        have ha0 : a0 ≤ 65535 := by omega
        have hS := nameP_size hn
        have HX := Lib.hid (show pt2 a0 ++ pt2 n0 ++ s = txE s (n0 : Int) (a0 : Int) from by unfold txE; rw [if_pos ⟨hn, by omega, by omega⟩]; rfl)
        have HPa := Lib.hid (fun W => rput2 a0 ha0 W)
        have HPn := Lib.hid (fun W => rput2 n0 hn0 W)
        obtain ⟨Pa, hPa⟩ : ∃ P, P = pt2 a0 := ⟨_, rfl⟩
        obtain ⟨Pn, hPn⟩ : ∃ P, P = pt2 n0 := ⟨_, rfl⟩
        have za : Pa.size = 2 := by rw [hPa, pt2_size]
        have zn : Pn.size = 2 := by rw [hPn, pt2_size]
        rw [← hPa] at HPa HX
        rw [← hPn] at HPn HX
        have v1 : ¬ 9223372036854775807 < Pa.size + Pn.size := by omega
        have v2 : ¬ 9223372036854775807 < (Pa ++ Pn).size + s.size := by rw [ByteArray.size_append]; omega
        have a1 := fun (W : World) => run_string_add_sum (P := Tryd.prog) (w := W) Pa Pn (by omega)
        have a2 := fun (W : World) => (run_string_add_sum (P := Tryd.prog) (w := W) (Pa ++ Pn) s (by rw [ByteArray.size_append]; omega)).trans (by rw [HX.out])
        have u1 : IntKind.u64.wrap (a0 : Int) = (a0 : Int) := IntWalk.u64_in _ (by omega)
        have u2 : IntKind.u64.wrap (n0 : Int) = (n0 : Int) := IntWalk.u64_in _ (by omega)
        clear hPa hPn hS hn
        go_wp2_with fail
        refine (HPa.out _).mono ?_
        rintro e w4 ⟨rfl, b4⟩
        have H4 := Lib.hid (And.intro (HT.out.1.gr0 (Gr.ofBelow (cs := []) b4)) (HT.out.2.next0 (Gr.ofBelow (cs := []) b4)))
        clear b4 c0 c1 HT
        have c0 := H4.out.1.cell 0
        have c1 := H4.out.1.cell 1
        go_wp2_with fail
        refine (HPn.out _).mono ?_
        rintro e w5 ⟨rfl, b5⟩
        have H5 := Lib.hid (And.intro (H4.out.1.gr0 (Gr.ofBelow (cs := []) b5)) (H4.out.2.next0 (Gr.ofBelow (cs := []) b5)))
        clear b5 c0 c1 H4
        have c0 := H5.out.1.cell 0
        go_wp2_with fail
        go_ret
        exact ⟨rfl, H5.out.2.below0⟩
      · have HX := Lib.hid (show (⟨#[]⟩ : ByteArray) = txE s n a from by unfold txE; rw [if_neg fun q => h2 q.2.2])
        obtain ⟨h3, h4⟩ := h1
        by_cases h5 : a < 0
        · clear h2 hn
          go_wp2_with fail
          go_ret
          rw [← HX.out]
          exact ⟨rfl, HT.out.2.below0⟩
        · have h6 : 65535 < a := by omega
          clear h2 hn
          go_wp2_with fail
          go_ret
          rw [← HX.out]
          exact ⟨rfl, HT.out.2.below0⟩
    · have HX := Lib.hid (show (⟨#[]⟩ : ByteArray) = txE s n a from by unfold txE; rw [if_neg fun q => h1 q.2.1])
      by_cases h5 : n < 0
      · clear h1 hn
        go_wp2_with fail
        go_ret
        rw [← HX.out]
        exact ⟨rfl, HT.out.2.below0⟩
      · have h6 : 65535 < n := by omega
        clear h1 hn
        go_wp2_with fail
        go_ret
        rw [← HX.out]
        exact ⟨rfl, HT.out.2.below0⟩
  · have e : nmE s.data.toList = 18 := by unfold nmE; rw [if_neg hn]
    rw [e]
    have HX := Lib.hid (show (⟨#[]⟩ : ByteArray) = txE s n a from by unfold txE; rw [if_neg fun q => hn q.1])
    clear e hn
    go_wp2_with fail
    go_ret
    rw [← HX.out]
    exact ⟨rfl, HT.out.2.below0⟩
end Go.Proofs.YtefiapmgdjlnnaaDoor

/-
  The frame of a law's row, the part that is the same for all: arrays of integers opened; facts on the program.
-/
namespace Go.Proofs.YtefiapmgdjlnnaaDoor
open Go.ChangeShapes Go.WideShapes Go.ChangeAt Go.RowKit

theorem own_ : ownKnob Tryd.prog.godebug = none := by kernel_rfl
theorem laid_ : laidOutB Tryd.prog = true := by kernel_rfl

end Go.Proofs.YtefiapmgdjlnnaaDoor
