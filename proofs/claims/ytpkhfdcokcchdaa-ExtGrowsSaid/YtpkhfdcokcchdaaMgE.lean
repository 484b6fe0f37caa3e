/-
  MgE: ExW, ExX, ExY, ExZ, EyA, EyB, EyC.
-/
import Derived.Test.YtpkhfdcokcchdaaMgD

/-
  Layer 15: Fill's refusals, the program's and the reference's.
-/
namespace Go.Proofs.Ytpkhfdcokcchdaa
open Go.RowKit

theorem efill_no (l : List (Int × Int)) (L : Nat) (i a n : Int) (ao : Option Addr) (cap : Nat) (w : World) (h : Sl2 w (.slice ao L cap) l) (hr : ¬ Right15 l) :
    Calls Try.prog 55 #[.slice ao L cap, .int .i64 i, .agg #[.int .i64 a, .int .i64 n]] w fun e w' => e = .returned (.tuple #[.slice none 0 0, .int .i64 2]) ∧ Gr [] w w' := by
  obtain ⟨hL, hrd, -⟩ := sl2_parts h
  have HR := Lib.hid hrd
  have HL := Lib.hid hL
  have HT := Lib.hid hr
  have HBX := Lib.hid (Holds.new w #[.int .i64 a, .int .i64 n] 35)
  have HG0 := Lib.hid ((Gr.refl [] w).alloc (Obj.cells #[.int .i64 a, .int .i64 n] 35))
  clear h hrd hL hr
  go_enter Try.func55, Try.ntmps55
  go_wp2_with fail
  generalize w.alloc (Obj.cells #[.int .i64 a, .int .i64 n] 35) = w1 at *
  obtain ⟨b0, hb0⟩ : ∃ b, w.heap.size = b := ⟨_, rfl⟩
  rw [hb0] at HBX ⊢
  clear hb0
  have hne := kp_ne w1
  have P1 := Lib.hid (fun x : Cls (Kp w1) => kcall_of (eright_no l L ao cap x.w (HR.out.gr0 (HG0.out.nextB x.h)) HL.out HT.out))
  refine wp_region_kp (by kernel_rfl) (by kernel_rfl) ?_
  repeat (go_big_quiet_step ((rename_i x; (with_reducible exact kp_call x (P1.out x)))))
  with_reducible refine wpQuiet_nil ?_
  rintro _ ⟨y, rfl⟩
  have H1 := Lib.hid (HG0.out.nextB y.h)
  clear hne P1 HBX HG0
  generalize y.w = w2 at *
  clear y
  go_wp2_with fail
  exact bodyPost_ret (v := .tuple #[.slice none 0 0, .int .i64 2]) (by simp [results, Try.results55, go_sem]) rfl ⟨rfl, H1.out⟩
theorem rfill_no (l : List (Int × Int)) (L : Nat) (i a n : Int) (ao : Option Addr) (cap : Nat) (w : World) (h : Sl2 w (.slice ao L cap) l) (hr : ¬ Right15 l) :
    Calls Try.prog 56 #[.slice ao L cap, .int .i64 i, .int .i64 a, .int .i64 n] w fun e w' => e = .returned (.tuple #[.slice none 0 0, .int .i64 2]) ∧ Gr [] w w' := by
  obtain ⟨hL, hrd, -⟩ := sl2_parts h
  have HC := Lib.hid (rright15_no l L ao cap w hrd hL hr)
  clear h hrd hL hr
  go_enter Try.func56, Try.ntmps56
  go_wp2_with fail
  refine HC.out.mono ?_
  rintro e w1 ⟨rfl, g1⟩
  have H1 := Lib.hid g1
  clear g1 HC
  go_wp2_with fail
  exact bodyPost_ret (v := .tuple #[.slice none 0 0, .int .i64 2]) (by simp [results, Try.results56, go_sem]) rfl ⟨rfl, H1.out⟩
theorem rfill_far (l : List (Int × Int)) (L : Nat) (i a n : Int) (ao : Option Addr) (cap : Nat) (w : World) (h : Sl2 w (.slice ao L cap) l) (hr : Right15 l) (hn : a < 0 ∨ n < 1 ∨ i < 0 ∨ sumZ l < n ∨ sumZ l - n < i) :
    Calls Try.prog 56 #[.slice ao L cap, .int .i64 i, .int .i64 a, .int .i64 n] w fun e w' => e = .returned (.tuple #[.slice none 0 0, .int .i64 2]) ∧ Gr [] w w' := by
  obtain ⟨hL, hrd, -⟩ := sl2_parts h
  have HC := Lib.hid (rright15_yes l L ao cap w hrd hL hr)
  have hlen := blk_len (l := l) (fun e he => (hr.all e he).2.2.1)
  have hs := hr.2.2
  obtain ⟨M, hM⟩ : ∃ M, M = (blk l).length := ⟨_, rfl⟩
  have HM := Lib.hid hM
  have HBK := Lib.hid (fun W (g : Gr [] w W) => rblocks_any l L ao cap W (hrd.gr0 g) hL (by have := hr.1; omega) hr.all)
  have hn2 : a < 0 ∨ n < 1 ∨ i < 0 ∨ (M : Int) < n ∨ (M : Int) - n < i := by omega
  have hM2 : M ≤ 65536 := by omega
  clear h hrd hL hr hlen hM hn hs
  go_enter Try.func56, Try.ntmps56
  go_wp2_with fail
  refine HC.out.mono ?_
  rintro e w1 ⟨rfl, g1⟩
  have H1 := Lib.hid g1
  clear g1 HC
  have HN := Lib.hid hn2
  clear hn2
  by_cases c1 : a < 0
  · go_wp2_with fail
    exact bodyPost_ret (v := .tuple #[.slice none 0 0, .int .i64 2]) (by simp [results, Try.results56, go_sem]) rfl ⟨rfl, H1.out⟩
  · by_cases c2 : n < 1
    · go_wp2_with fail
      exact bodyPost_ret (v := .tuple #[.slice none 0 0, .int .i64 2]) (by simp [results, Try.results56, go_sem]) rfl ⟨rfl, H1.out⟩
    · by_cases c3 : i < 0
      · go_wp2_with fail
        exact bodyPost_ret (v := .tuple #[.slice none 0 0, .int .i64 2]) (by simp [results, Try.results56, go_sem]) rfl ⟨rfl, H1.out⟩
      · go_wp2_with fail
        refine (HBK.out _ H1.out).mono ?_
        rintro e w2 ⟨vb, rfl, o2, g2⟩
        have H2 := Lib.hid (H1.out.next0 g2)
        rw [← HM.out] at o2
        obtain ⟨ab, cb, rfl⟩ := own_form o2
        clear g2 HBK o2
        by_cases c4 : (M : Int) < n
        · go_wp2_with fail
          exact bodyPost_ret (v := .tuple #[.slice none 0 0, .int .i64 2]) (by simp [results, Try.results56, go_sem]) rfl ⟨rfl, H2.out⟩
        · have c5 : (M : Int) - n < i := by have := HN.out; omega
          have hw : IntKind.i64.wrap ((M : Int) - n) = (M : Int) - n := IntWalk.i64_in _ (by omega)
          go_wp2_with fail
          exact bodyPost_ret (v := .tuple #[.slice none 0 0, .int .i64 2]) (by simp [results, Try.results56, go_sem]) rfl ⟨rfl, H2.out⟩

end Go.Proofs.Ytpkhfdcokcchdaa

/-
  Layer 15: the program's Fill refuses arguments out of range.
-/
namespace Go.Proofs.Ytpkhfdcokcchdaa
open Go.RowKit

set_option maxHeartbeats 2000000 in
theorem efill_far (l : List (Int × Int)) (L : Nat) (i a n : Int) (ao : Option Addr) (cap : Nat) (w : World) (h : Sl2 w (.slice ao L cap) l) (hr : Right15 l) (hn : a < 0 ∨ n < 1 ∨ i < 0 ∨ sumZ l < n ∨ sumZ l - n < i) :
    Calls Try.prog 55 #[.slice ao L cap, .int .i64 i, .agg #[.int .i64 a, .int .i64 n]] w fun e w' => e = .returned (.tuple #[.slice none 0 0, .int .i64 2]) ∧ Gr [] w w' := by
  obtain ⟨hL, hrd, -⟩ := sl2_parts h
  have HR := Lib.hid hrd
  have HL := Lib.hid hL
  have HT := Lib.hid hr
  obtain ⟨s, hs⟩ : ∃ s, s = sumZ l := ⟨_, rfl⟩
  have HS := Lib.hid hs
  have hs2 : s ≤ 65536 := by rw [hs]; exact hr.2.2
  have hs3 : 0 ≤ s := by
    rw [hs, ← blk_len (l := l) (fun e he => (hr.all e he).2.2.1)]
    omega
  rw [← hs] at hn
  have HN := Lib.hid hn
  have HBX := Lib.hid (Holds.new w #[.int .i64 a, .int .i64 n] 35)
  have HG0 := Lib.hid ((Gr.refl [] w).alloc (Obj.cells #[.int .i64 a, .int .i64 n] 35))
  clear h hrd hL hr hs hn
  go_enter Try.func55, Try.ntmps55
  go_wp2_with fail
  have k0 := kp_cell (HBX.out.cell 0)
  have k1 := kp_cell (HBX.out.cell 1)
  generalize w.alloc (Obj.cells #[.int .i64 a, .int .i64 n] 35) = w1 at *
  obtain ⟨b0, hb0⟩ : ∃ b, w.heap.size = b := ⟨_, rfl⟩
  rw [hb0] at HBX k0 k1 ⊢
  clear hb0
  have hne := kp_ne w1
  have P1 := Lib.hid (fun x : Cls (Kp w1) => kcall_of (eright_yes l L ao cap x.w (HR.out.gr0 (HG0.out.nextB x.h)) HL.out HT.out))
  have P2 := Lib.hid (fun x : Cls (Kp w1) => kcall_of (eblocks_any l L s ao cap x.w (HR.out.gr0 (HG0.out.nextB x.h)) HL.out HT.out.small HS.out))
  by_cases c1 : a < 0
  · have d1 : decide (a < 0) = true := decide_eq_true c1
    refine wp_region_kp (by kernel_rfl) (by kernel_rfl) ?_
    repeat (go_big_quiet_step ((rename_i x; first
      | (with_reducible exact kp_call x (P1.out x))
      | (with_reducible exact kp_call x (P2.out x)))))
    with_reducible refine wpQuiet_nil ?_
    rintro _ ⟨y, rfl⟩
    have H1 := Lib.hid (HG0.out.nextB y.h)
    clear k0 k1 hne P1 P2 HBX HG0
    generalize y.w = w2 at *
    clear y
    go_wp2_with fail
    exact bodyPost_ret (v := .tuple #[.slice none 0 0, .int .i64 2]) (by simp [results, Try.results55, go_sem]) rfl ⟨rfl, H1.out⟩
  · by_cases c2 : n < 1
    · have d2 : decide (n < 1) = true := decide_eq_true c2
      refine wp_region_kp (by kernel_rfl) (by kernel_rfl) ?_
      repeat (go_big_quiet_step ((rename_i x; first
        | (with_reducible exact kp_call x (P1.out x))
        | (with_reducible exact kp_call x (P2.out x)))))
      with_reducible refine wpQuiet_nil ?_
      rintro _ ⟨y, rfl⟩
      have H1 := Lib.hid (HG0.out.nextB y.h)
      clear k0 k1 hne P1 P2 HBX HG0
      generalize y.w = w2 at *
      clear y
      go_wp2_with fail
      exact bodyPost_ret (v := .tuple #[.slice none 0 0, .int .i64 2]) (by simp [results, Try.results55, go_sem]) rfl ⟨rfl, H1.out⟩
    · by_cases c3 : i < 0
      · have d3 : decide (i < 0) = true := decide_eq_true c3
        refine wp_region_kp (by kernel_rfl) (by kernel_rfl) ?_
        repeat (go_big_quiet_step ((rename_i x; first
          | (with_reducible exact kp_call x (P1.out x))
          | (with_reducible exact kp_call x (P2.out x)))))
        with_reducible refine wpQuiet_nil ?_
        rintro _ ⟨y, rfl⟩
        have H1 := Lib.hid (HG0.out.nextB y.h)
        clear k0 k1 hne P1 P2 HBX HG0
        generalize y.w = w2 at *
        clear y
        go_wp2_with fail
        exact bodyPost_ret (v := .tuple #[.slice none 0 0, .int .i64 2]) (by simp [results, Try.results55, go_sem]) rfl ⟨rfl, H1.out⟩
      · by_cases c4 : s < n
        · have d4 : decide (s < n) = true := decide_eq_true c4
          refine wp_region_kp (by kernel_rfl) (by kernel_rfl) ?_
          repeat (go_big_quiet_step ((rename_i x; first
            | (with_reducible exact kp_call x (P1.out x))
            | (with_reducible exact kp_call x (P2.out x)))))
          with_reducible refine wpQuiet_nil ?_
          rintro _ ⟨y, rfl⟩
          have H1 := Lib.hid (HG0.out.nextB y.h)
          clear k0 k1 hne P1 P2 HBX HG0
          generalize y.w = w2 at *
          clear y
          go_wp2_with fail
          exact bodyPost_ret (v := .tuple #[.slice none 0 0, .int .i64 2]) (by simp [results, Try.results55, go_sem]) rfl ⟨rfl, H1.out⟩
        · have c5 : s - n < i := by have := HN.out; omega
          have hw : IntKind.i64.wrap (s - n) = s - n := IntWalk.i64_in _ (by omega)
          have d5 : decide (s - n < i) = true := decide_eq_true c5
          refine wp_region_kp (by kernel_rfl) (by kernel_rfl) ?_
          repeat (go_big_quiet_step ((rename_i x; first
            | (with_reducible exact kp_call x (P1.out x))
            | (with_reducible exact kp_call x (P2.out x)))))
          with_reducible refine wpQuiet_nil ?_
          rintro _ ⟨y, rfl⟩
          have H1 := Lib.hid (HG0.out.nextB y.h)
          clear k0 k1 hne P1 P2 HBX HG0
          generalize y.w = w2 at *
          clear y
          go_wp2_with fail
          exact bodyPost_ret (v := .tuple #[.slice none 0 0, .int .i64 2]) (by simp [results, Try.results55, go_sem]) rfl ⟨rfl, H1.out⟩

end Go.Proofs.Ytpkhfdcokcchdaa

/-
  Layer 15: the reference's Runs, of any blocks, with the sums that wrap.
-/
namespace Go.Proofs.Ytpkhfdcokcchdaa
open Go.RowKit

def jW (p : Int × Int) (x : Int) : Bool := if p.1 = -1 ∨ x = -1 then decide (p.1 = -1 ∧ x = -1) else decide (IntKind.i64.wrap (p.1 + p.2) = x)
def addW (acc : List (Int × Int)) (x : Int) : List (Int × Int) :=
  match acc.getLast? with
  | some p => if jW p x = true then acc.dropLast ++ [(p.1, p.2 + 1)] else acc ++ [(x, 1)]
  | none => [(x, 1)]
def runsW (b : List Int) : List (Int × Int) := b.foldl addW []
theorem addW_nil (x : Int) : addW [] x = [(x, 1)] := rfl
theorem addW_snoc (A : List (Int × Int)) (p : Int × Int) (x : Int) : addW (A ++ [p]) x = if jW p x = true then A ++ [(p.1, p.2 + 1)] else A ++ [p] ++ [(x, 1)] := by
  unfold addW; simp
theorem runsW_take {b : List Int} {k : Nat} {x : Int} (h : b[k]? = some x) : runsW (b.take (k + 1)) = addW (runsW (b.take k)) x := by
  unfold runsW
  rw [take_snoc h, List.foldl_append]
  rfl
theorem addW_ok {acc : List (Int × Int)} {s : Int} (x : Int) (h : (∀ p ∈ acc, 1 ≤ p.2) ∧ sumZ acc = s) : (∀ p ∈ addW acc x, 1 ≤ p.2) ∧ sumZ (addW acc x) = s + 1 := by
  rcases List.eq_nil_or_concat acc with q | ⟨A, p, q⟩
  · rw [q] at h ⊢
    rw [addW_nil]
    have := h.2
    simp [sumZ] at this ⊢
    omega
  · rw [List.concat_eq_append] at q
    rw [q] at h ⊢
    rw [addW_snoc]
    have h2 := h.2
    rw [sumZ_append] at h2
    have hp := h.1 p (by simp)
    split
    · refine ⟨fun y hy => ?_, by rw [sumZ_append]; simp [sumZ] at h2 ⊢; omega⟩
      rcases List.mem_append.1 hy with z | z
      · exact h.1 y (by simp [z])
      · simp at z; subst z; simp only; omega
    · refine ⟨fun y hy => ?_, by rw [sumZ_append, sumZ_append]; simp [sumZ] at h2 ⊢; omega⟩
      rcases List.mem_append.1 hy with z | z
      · exact h.1 y z
      · simp at z; subst z; simp
theorem runsW_ok (b : List Int) (k : Nat) (hk : k ≤ b.length) : (∀ p ∈ runsW (b.take k), 1 ≤ p.2) ∧ sumZ (runsW (b.take k)) = k := by
  induction k with
  | zero => simp [runsW, sumZ]
  | succ k ih =>
    rw [runsW_take (List.getElem?_eq_getElem (show k < b.length by omega))]
    have := addW_ok (b[k]'(by omega)) (ih (by omega))
    refine ⟨this.1, ?_⟩
    rw [this.2]
    push_cast
    rfl
theorem rjoins_W (a1 a2 b1 b2 : Int) (w : World) :
    Calls Try.prog 93 #[.agg #[.int .i64 a1, .int .i64 a2], .agg #[.int .i64 b1, .int .i64 b2]] w fun e w' => e = .returned (.bool (jW (a1, a2) b1)) ∧ Gr [] w w' := by
  have HG := Lib.hid (((Gr.refl [] w).alloc (Obj.cells #[.int .i64 a1, .int .i64 a2] 44)).alloc (Obj.cells #[.int .i64 b1, .int .i64 b2] 44))
  obtain ⟨s, h⟩ : ∃ s, IntKind.i64.wrap (a1 + a2) = s := ⟨_, rfl⟩
  by_cases h1 : a1 = -1
  · have d1 : (a1 == -1) = true := by simpa using h1
    by_cases h2 : b1 = -1
    · have d2 : (b1 == -1) = true := by simpa using h2
      have HM := Lib.hid (show jW (a1, a2) b1 = true by unfold jW; rw [if_pos (.inl h1)]; simp [h1, h2])
      clear h1 h2
      go_enter Try.func93, Try.ntmps93
      go_wp2_with fail
      go_ret
      exact ⟨by rw [HM.out]; rfl, HG.out⟩
    · have d2 : (b1 == -1) = false := by simpa using h2
      have HM := Lib.hid (show jW (a1, a2) b1 = false by unfold jW; rw [if_pos (.inl h1)]; simp [h1]; omega)
      clear h1 h2
      go_enter Try.func93, Try.ntmps93
      go_wp2_with fail
      go_ret
      exact ⟨by rw [HM.out]; rfl, HG.out⟩
  · have d1 : (a1 == -1) = false := by simpa using h1
    by_cases h2 : b1 = -1
    · have d2 : (b1 == -1) = true := by simpa using h2
      have HM := Lib.hid (show jW (a1, a2) b1 = false by unfold jW; rw [if_pos (.inr h2)]; simp [h2]; omega)
      clear h1 h2
      go_enter Try.func93, Try.ntmps93
      go_wp2_with fail
      go_ret
      exact ⟨by rw [HM.out]; rfl, HG.out⟩
    · have d2 : (b1 == -1) = false := by simpa using h2
      have HM := Lib.hid (show jW (a1, a2) b1 = (s == b1) by unfold jW; rw [if_neg (fun q => q.elim h1 h2), h]; rfl)
      clear h1 h2
      go_enter Try.func93, Try.ntmps93
      go_wp2_with fail
      go_ret
      exact ⟨by rw [HM.out]; rfl, HG.out⟩

set_option maxHeartbeats 4000000 in
set_option maxRecDepth 20000 in
theorem rruns_W (b : List Int) (N : Nat) (ao : Option Addr) (cap : Nat) (w : World) (h : RdZ w ao b) (hN : N = b.length) (hN2 : N ≤ 1000000) :
    Calls Try.prog 91 #[.slice ao N cap] w fun e w' => ∃ v, e = .returned v ∧ w'.ownsRow w.heap.size 44 2 v (runsW b).length (cells2 (runsW b)) ∧ Gr [] w w' := by
  obtain ⟨i0, hi0, hz0, hz1, hz2⟩ := info_parts infoP2
  have HR := Lib.hid h
  have HN := Lib.hid hN
  have HB := Lib.hid (fun k (hk : k ≤ b.length) => runsW_ok b k hk)
  clear h hN
  go_enter Try.func91, Try.ntmps91
  go_wp2_with fail
  go_loopw [3, 4] (fun v i wr => ∃ k : Nat, k ≤ N ∧ i = .int .i64 k ∧ wr.ownsRow w.heap.size 44 2 v (runsW (b.take k)).length (cells2 (runsW (b.take k))) ∧ Gr [] w wr) (fun _ i _ => N - (intOf i).toNat)
  case atStart => exact ⟨0, by omega, rfl, World.ownsRow_nil _ _ _ _, Gr.refl _ _⟩
  case round =>
    obtain ⟨k, hk, rfl, ho, G⟩ := hrel
    have HQ := Lib.hid (And.intro ho G)
    have hsz := G.size
    clear ho G
    by_cases hkN : k < N
    · have hkN2 : (k : Int) < (N : Int) := by omega
      obtain ⟨x, hx⟩ : ∃ x, b[k]? = some x := ⟨_, List.getElem?_eq_getElem (by have := HN.out; omega)⟩
      obtain ⟨bk, o, hao, hbk, c1⟩ := HR.out k x hx
      have d1 : wr.cell? ⟨bk, o + k, none⟩ = some (.int .i64 x) := (HQ.out.2.cell0 hbk).trans c1
      have HST := Lib.hid (runsW_take hx)
      obtain ⟨hok1, hok2⟩ := HB.out k (by have := HN.out; omega)
      have hln := (sumZ_mem (fun p hp => hok1 p hp)).1
      rw [hok2] at hln
      subst hao
      clear c1 hx
      rcases List.eq_nil_or_concat (runsW (b.take k)) with hnil | ⟨A, ⟨p1, p2⟩, hcat⟩
      · rw [hnil] at HQ HST hln
        have HN3 := Lib.hid (Holds.new wr #[.int .i64 x, .int .i64 1] 44)
        have HO3 := Lib.hid (HQ.out.1.alloc (Obj.cells #[.int .i64 x, .int .i64 1] 44))
        have hone : ∀ u ∈ [Value.int .i64 x, .int .i64 1], u.oneCell' = true := by simp [Value.oneCell']
        have hu : ∃ aa cc, u3 = .slice aa 0 cc := by
          obtain ⟨aa, cc, hv⟩ := own_form HQ.out.1
          exact ⟨aa, cc, hv⟩
        obtain ⟨aa, cc, rfl⟩ := hu
        clear hok1 hok2 hln
        go_wp2_with (at_builtin; refine wpList_append_own _ rfl _ _ 39 rfl w.heap.size 44 i0 _ 2 16 Try.underlying39 hi0 hz0 hz1 hz2 rfl (by decide) _ _ _ rfl HO3.out ⟨wr.heap.size, 0, none⟩ 1 1 [.int .i64 x, .int .i64 1] rfl rfl (World.news_of_block HN3.out) hone (by unfold maxLen; simp) (by simp) (by rw [World.size_alloc]; omega) ?_)
        intro v4 w4 hown4 hgrow4 _
        have hlt4 := HO3.out.lt
        have HF := Lib.hid (And.intro (show w4.ownsRow w.heap.size 44 2 v4 (runsW (b.take (k + 1))).length (cells2 (runsW (b.take (k + 1)))) by
          rw [HST.out, addW_nil]; exact hown4) ((HQ.out.2.alloc (Obj.cells #[.int .i64 x, .int .i64 1] 44)).nextN (gr_grown hgrow4) (fun x hx => .inr (hlt4 x (by simpa using hx)).1)))
        clear hown4 hgrow4 hlt4 HO3 HN3 d1 hone
        go_wp2_with fail
        go_roundw
        case rel => exact ⟨k + 1, by omega, by go_num, HF.out.1, HF.out.2⟩
        case measure => simp [intOf]; omega
      · rw [List.concat_eq_append] at hcat
        rw [hcat] at HQ HST hln hok1 hok2
        have hp := hok1 (p1, p2) (by simp)
        simp only at hp
        have hp2 : p2 ≤ 1000000 := by
          have := (sumZ_mem (fun p hp => hok1 p hp)).2 (p1, p2) (by simp)
          rw [hok2] at this
          simp only at this
          omega
        rw [List.length_append] at HQ hln
        have hv : ∃ g c, u3 = .slice (some ⟨g, 0, none⟩) (A.length + 1) c ∧ w.heap.size ≤ g ∧ g < wr.heap.size := HQ.out.1.form (Nat.succ_pos _)
        obtain ⟨g, c, rfl, hg1, hg2⟩ := hv
        obtain ⟨-, e0, e1, e2, e3⟩ := row_upZ HQ.out.1 (p2 + 1)
        have HR3 := Lib.hid (And.intro e3 hg1)
        obtain ⟨q, hq⟩ : ∃ q, q = A.length := ⟨_, rfl⟩
        rw [← hq] at e0 e1 e2 HQ HR3 ⊢
        have HQL := Lib.hid hq
        have hq6 : q ≤ 1000000 := by simp at hln; omega
        have i2 : (q : Int) + 1 - 1 = (q : Int) := by omega
        have i3 : IntKind.i64.wrap (q : Int) = (q : Int) := IntWalk.i64_in _ (by omega)
        have i4 : IntKind.i64.wrap (p2 + 1) = p2 + 1 := IntWalk.i64_in _ (by omega)
        have i5 : (q : Int) < (q : Int) + 1 := by omega
        have i6 : (0 : Int) ≤ (q : Int) := by omega
        have i7 : (0 : Int) < (q : Int) + 1 := by omega
        have i8 : (0 : Int) ≤ (k : Int) := by omega
        obtain ⟨m, hm⟩ : ∃ m, m = jW (p1, p2) x := ⟨_, rfl⟩
        have k0 := kp_cell e0
        have k1 := kp_cell e1
        have k2 := kp_cell d1
        have hne := kp_ne wr
        have P1 := Lib.hid (fun x_ : Cls (Kp wr) => kcall_of (rjoins_W p1 p2 x 1 x_.w))
        rw [← hm] at P1
        rw [addW_snoc, ← hm] at HST
        clear hq hcat hok1 hok2 hln hp hm e3
        go_wp2_with fail
        refine wp_region_kp (by kernel_rfl) (by kernel_rfl) ?_
        repeat (go_big_quiet_step ((rename_i x_; with_reducible exact kp_call x_ (P1.out x_))))
        with_reducible refine wpQuiet_nil ?_
        rintro _ ⟨y, rfl⟩
        have HY := Lib.hid (And.intro (own_keep HQ.out.1 y.h) (HQ.out.2.nextB y.h))
        have z0 := k0 y
        have z1 := k1 y
        have z2 := k2 y
        have zf : y.w.frozen? ⟨g, q * 2 + 1, none⟩ = false := HY.out.1.frozenAt _
        have hszy := HY.out.2.size
        clear k0 k1 k2 hne P1 e0 e1 e2 d1 HR3 HQ
        generalize y.w = wy at *
        clear y
        cases m with
        | true =>
          rw [if_pos rfl] at HST
          have HUP := Lib.hid (show (wy.setCell ⟨g, q * 2 + 1, none⟩ (.int .i64 (p2 + 1))).ownsRow w.heap.size 44 2 (.slice (some ⟨g, 0, none⟩) (q + 1) c) (q + 1) (cells2 (A ++ [(p1, p2 + 1)])) by
            have hz := HY.out.1
            rw [HQL.out] at hz ⊢
            exact (row_upZ hz (p2 + 1)).2.2.2.2)
          go_wp2_with fail
          go_still_tail 9, (by kernel_rfl)
          go_wp2_with fail
          go_roundw
          case rel =>
            refine ⟨k + 1, by omega, by go_num, ?_, (HY.out.2.setCell (p := ⟨g, q * 2 + 1, none⟩) (.inr hg1) _).drewN _⟩
            rw [HST.out, List.length_append, ← HQL.out]
            exact HUP.out
          case measure => simp [intOf]; omega
        | false =>
          rw [if_neg (by simp)] at HST
          have HN3 := Lib.hid (Holds.new wy #[.int .i64 x, .int .i64 1] 44)
          have HO3 := Lib.hid (HY.out.1.alloc (Obj.cells #[.int .i64 x, .int .i64 1] 44))
          have hone : ∀ u ∈ [Value.int .i64 x, .int .i64 1], u.oneCell' = true := by simp [Value.oneCell']
          go_wp2_with (at_builtin; refine wpList_append_own _ rfl _ _ 39 rfl w.heap.size 44 i0 _ 2 16 Try.underlying39 hi0 hz0 hz1 hz2 rfl (by decide) _ _ _ rfl HO3.out ⟨wy.heap.size, 0, none⟩ 1 1 [.int .i64 x, .int .i64 1] rfl rfl (World.news_of_block HN3.out) hone (by simp only [List.length_cons, List.length_nil]; unfold maxLen; omega) (by simp only [List.length_cons, List.length_nil]; omega) (by rw [World.size_alloc]; omega) ?_)
          intro v4 w4 hown4 hgrow4 _
          have hlt4 := HO3.out.lt
          have HF := Lib.hid (And.intro (show w4.ownsRow w.heap.size 44 2 v4 (runsW (b.take (k + 1))).length (cells2 (runsW (b.take (k + 1)))) by
            rw [HST.out, List.length_append, List.length_append, cells2_append, ← HQL.out]; exact hown4) ((HY.out.2.alloc (Obj.cells #[.int .i64 x, .int .i64 1] 44)).nextN (gr_grown hgrow4) (fun x hx => .inr (hlt4 x (by simpa using hx)).1)))
          clear hown4 hgrow4 hlt4 HO3 HN3 hone
          go_wp2_with fail
          go_roundw
          case rel => exact ⟨k + 1, by omega, by go_num, HF.out.1, HF.out.2⟩
          case measure => simp [intOf]; omega
    · obtain rfl : k = N := by omega
      have ht : b.take k = b := by rw [HN.out]; exact List.take_length
      rw [ht] at HQ
      go_wp2_with fail
      go_ret
      exact ⟨_, rfl, HQ.out.1, HQ.out.2⟩

end Go.Proofs.Ytpkhfdcokcchdaa

/-
  Layer 15: the reference's Fill at a place beyond all.
-/
namespace Go.Proofs.Ytpkhfdcokcchdaa
open Go.RowKit

def fillW (b : List Int) (i k : Nat) (a : Int) : List Int := b.take i ++ (List.range k).map (fun (j : Nat) => IntKind.i64.wrap (a + (j : Int))) ++ b.drop (i + k)
theorem fillW_zero (b : List Int) (i : Nat) (a : Int) : fillW b i 0 a = b := by simp [fillW]
theorem fillW_len (b : List Int) (i k : Nat) (a : Int) (h : i + k ≤ b.length) : (fillW b i k a).length = b.length := by
  simp [fillW]; omega
theorem fillW_set (b : List Int) (i k : Nat) (a : Int) (h : i + k < b.length) : (fillW b i k a).set (i + k) (IntKind.i64.wrap (a + (k : Int))) = fillW b i (k + 1) a := by
  unfold fillW
  rw [List.drop_eq_getElem_cons (show i + k < b.length from h), List.range_succ, List.map_append]
  have hl : (b.take i ++ (List.range k).map (fun (j : Nat) => IntKind.i64.wrap (a + (j : Int)))).length = i + k := by simp; omega
  rw [List.set_append_right _ _ (by rw [hl]; exact Nat.le_refl _), hl, Nat.sub_self, List.set_cons_zero]
  simp only [List.map_cons, List.map_nil, List.append_assoc, List.singleton_append, Nat.add_assoc]
theorem fillW_far (b : List Int) (i k j : Nat) (a : Int) (h : i + k ≤ j) (hb : i + k ≤ b.length) : (fillW b i k a)[j]? = b[j]? := by
  unfold fillW
  rw [List.getElem?_append_right (by simp; omega), List.getElem?_drop]
  congr 1
  simp
  omega
theorem addW_cases (acc : List (Int × Int)) (x : Int) : (acc = [] ∧ addW acc x = [(x, 1)]) ∨ ∃ A p, acc = A ++ [p] ∧ ((jW p x = true ∧ addW acc x = A ++ [(p.1, p.2 + 1)]) ∨ (jW p x = false ∧ addW acc x = A ++ [p] ++ [(x, 1)])) := by
  rcases List.eq_nil_or_concat acc with q | ⟨A, p, q⟩
  · exact .inl ⟨q, by rw [q]; rfl⟩
  · rw [List.concat_eq_append] at q
    refine .inr ⟨A, p, q, ?_⟩
    rw [q, addW_snoc]
    cases h : jW p x with
    | true => exact .inl ⟨rfl, rfl⟩
    | false => exact .inr ⟨rfl, rfl⟩
theorem addW_from {acc : List (Int × Int)} {b : List Int} (x : Int) (h : ∀ p ∈ acc, p.1 ∈ b) : ∀ p ∈ addW acc x, p.1 ∈ b ++ [x] := by
  intro y hy
  rcases addW_cases acc x with ⟨_, q⟩ | ⟨A, p, z, ⟨_, q⟩ | ⟨_, q⟩⟩
  · rw [q] at hy; simp at hy; subst hy; simp
  · rw [q] at hy
    rcases List.mem_append.1 hy with r | r
    · exact List.mem_append.2 (.inl (h y (by rw [z]; simp [r])))
    · simp at r; subst r; exact List.mem_append.2 (.inl (h p (by rw [z]; simp)))
  · rw [q] at hy
    rcases List.mem_append.1 hy with r | r
    · exact List.mem_append.2 (.inl (h y (by rw [z]; exact r)))
    · simp at r; subst r; simp
theorem runsW_from (b : List Int) (k : Nat) (hk : k ≤ b.length) : ∀ p ∈ runsW (b.take k), p.1 ∈ b.take k := by
  induction k with
  | zero => simp [runsW]
  | succ k ih =>
    have hx := List.getElem?_eq_getElem (show k < b.length by omega)
    rw [runsW_take hx, take_snoc hx]
    exact addW_from _ (ih (by omega))
theorem stayW {acc : List (Int × Int)} {a : Int} (x : Int) (h : ∃ p ∈ acc, p.1 = a) : ∃ p ∈ addW acc x, p.1 = a := by
  obtain ⟨p0, hp0, e0⟩ := h
  rcases addW_cases acc x with ⟨z, q⟩ | ⟨A, p, z, ⟨_, q⟩ | ⟨_, q⟩⟩
  · rw [z] at hp0; simp at hp0
  · rw [z] at hp0
    rw [q]
    rcases List.mem_append.1 hp0 with r | r
    · exact ⟨p0, List.mem_append.2 (.inl r), e0⟩
    · simp at r; subst r; exact ⟨(p0.1, p0.2 + 1), by simp, e0⟩
  · rw [z] at hp0
    rw [q]
    exact ⟨p0, List.mem_append.2 (.inl hp0), e0⟩
theorem stayW_fold {a : Int} (r : List Int) : ∀ acc, (∃ p ∈ acc, p.1 = a) → ∃ p ∈ r.foldl addW acc, p.1 = a := by
  induction r with
  | nil => intro acc h; exact h
  | cons x r ih => intro acc h; exact ih _ (stayW x h)
theorem fillW_bad {l : List (Int × Int)} (h : Right15 l) {i n : Nat} {a : Int} (ha : 900000 < a) (ha2 : a ≤ 9223372036854775807) (hn : 1 ≤ n) (hin : i + n ≤ (blk l).length) : ¬ Right15 (runsW (fillW (blk l) i n a)) := by
  have hbd : ∀ x ∈ blk l, -1 ≤ x ∧ x ≤ 131072 := by
    intro x hx
    obtain ⟨e, he, hxe⟩ := List.mem_flatMap.1 hx
    have := h.all e he
    rcases blkR_mem hxe with q | q <;> omega
  have hlen := blk_len (l := l) (fun e he => (h.all e he).2.2.1)
  have hs := h.2.2
  obtain ⟨m, rfl⟩ : ∃ m, n = m + 1 := ⟨n - 1, by omega⟩
  have hz : fillW (blk l) i (m + 1) a = ((blk l).take i ++ [a]) ++ ((List.range m).map (fun (j : Nat) => IntKind.i64.wrap (a + ((j + 1 : Nat) : Int))) ++ (blk l).drop (i + (m + 1))) := by
    unfold fillW
    rw [List.range_succ_eq_map, List.map_cons, List.map_map]
    have : IntKind.i64.wrap (a + ((0 : Nat) : Int)) = a := by
      rw [show a + ((0 : Nat) : Int) = a by simp]
      exact IntWalk.i64_in _ (by omega)
    rw [this]
    simp only [List.append_assoc, List.cons_append, List.nil_append]
    rfl
  have hex : ∃ p ∈ runsW (fillW (blk l) i (m + 1) a), p.1 = a := by
    rw [hz]
    unfold runsW
    rw [List.foldl_append]
    refine stayW_fold _ _ ?_
    rw [List.foldl_append]
    show ∃ p ∈ addW (runsW ((blk l).take i)) a, p.1 = a
    have hf := runsW_from (blk l) i (by omega)
    have ho := runsW_ok (blk l) i (by omega)
    rcases addW_cases (runsW ((blk l).take i)) a with ⟨_, q⟩ | ⟨A, p, z, ⟨hj, q⟩ | ⟨_, q⟩⟩
    · rw [q]; exact ⟨(a, 1), by simp, rfl⟩
    · exfalso
      have hp : p ∈ runsW ((blk l).take i) := by rw [z]; simp
      have h1 := hbd _ (List.mem_of_mem_take (hf p hp))
      have h2 := (sumZ_mem ho.1).2 p hp
      rw [ho.2] at h2
      unfold jW at hj
      split at hj
      · simp at hj; omega
      · rw [IntWalk.i64_in _ (by have := ho.1 p hp; omega)] at hj
        simp at hj; omega
    · rw [q]; exact ⟨(a, 1), by simp, rfl⟩
  obtain ⟨p, hp, e⟩ := hex
  intro hr
  have := hr.all p hp
  omega
set_option maxHeartbeats 2000000 in
set_option maxRecDepth 20000 in
theorem rfill_big (l : List (Int × Int)) (N i n : Nat) (a : Int) (ao : Option Addr) (cap : Nat) (w : World) (h : Rd2 w ao l) (hN : N = l.length) (hr : Right15 l) (ha : 900000 < a) (ha2 : a ≤ 9223372036854775807) (hn1 : 1 ≤ n) (hn : (i : Int) + n ≤ sumZ l) :
    Calls Try.prog 56 #[.slice ao N cap, .int .i64 i, .int .i64 a, .int .i64 n] w fun e w' => Gr [] w w' ∧
      ((0 < heldZ (firstP (restP l i) n) ∧ e = .returned (.tuple #[.slice none 0 0, .int .i64 2])) ∨
       (heldZ (firstP (restP l i) n) ≤ 0 ∧ e = .returned (.tuple #[.slice none 0 0, .int .i64 7]))) := by
  obtain ⟨i0, hi0, hz0, hz1, hz2⟩ := info_parts infoI15
  have HC := Lib.hid (rright15_yes l N ao cap w h hN hr)
  have HBK := Lib.hid (fun W (g : Gr [] w W) => rblocks_any l N ao cap W (h.gr0 g) hN (by have := hr.1; omega) hr.all)
  have hlen := blk_len (l := l) (fun e he => (hr.all e he).2.2.1)
  have hs := hr.2.2
  have HFI := Lib.hid (fillW_bad hr (i := i) (n := n) ha ha2 hn1 (by omega))
  have HHO := Lib.hid (hole_is hr i n (by omega))
  obtain ⟨B, hB⟩ : ∃ B, B = blk l := ⟨_, rfl⟩
  rw [← hB] at hlen HFI HHO
  obtain ⟨M, hM⟩ : ∃ M, M = B.length := ⟨_, rfl⟩
  have HM := Lib.hid hM
  have hM2 : M ≤ 65536 := by omega
  have hin : i + n ≤ M := by omega
  obtain ⟨hz, hhz⟩ : ∃ z, z = heldZ (firstP (restP l i) n) := ⟨_, rfl⟩
  rw [← hhz] at HHO ⊢
  have HBK := Lib.hid (fun W (g : Gr [] w W) => by have := HBK.out W g; rw [← hB, ← hM] at this; exact this)
  have d1 : ¬ a < 0 := by omega
  have d2 : ¬ (n : Int) < 1 := by omega
  have d3 : ¬ (M : Int) < (n : Int) := by omega
  have d4 : IntKind.i64.wrap ((M : Int) - (n : Int)) = (M : Int) - (n : Int) := IntWalk.i64_in _ (by omega)
  have d5 : ¬ (M : Int) - (n : Int) < (i : Int) := by omega
  clear h hN hr hn hlen hs hM hhz hB
  go_enter Try.func56, Try.ntmps56
  go_wp2_with fail
  refine HC.out.mono ?_
  rintro e w1 ⟨rfl, g1⟩
  have H1 := Lib.hid g1
  clear g1 HC
  go_wp2_with fail
  refine (HBK.out _ H1.out).mono ?_
  rintro e w2 ⟨vb, rfl, o2, g2⟩
  have H2 := Lib.hid (H1.out.next0 g2)
  obtain ⟨gB, cB, hvB, hgB1, hgB2⟩ := o2.form (by omega)
  subst hvB
  have HB2 := Lib.hid o2
  have hnews : ∀ j u, (cellsZ B)[j]? = some u → w2.cell? ((⟨gB, 0, none⟩ : Addr).add j) = some u := fun j u hu => by
    have hj : j < B.length := by have := (List.getElem?_eq_some_iff.1 hu).1; rw [cellsZ_len] at this; exact this
    have e1 : (⟨gB, 0, none⟩ : Addr).add j = ⟨gB, j, none⟩ := by rw [Go.WideShapes.add_plain, Nat.zero_add]
    rw [e1, o2.cellAt _ (by have := HM.out; omega)]
    exact hu
  have hlen2 : (cellsZ B).length = M * 1 := by rw [cellsZ_len, Nat.mul_one, HM.out]
  have hone := cellsZ_one B
  have HOL := Lib.hid (World.ownsRow_nil w2 w2.heap.size 3 1)
  clear g2 HBK H1 o2
  go_wp2_with (at_builtin; refine wpList_append_own _ rfl _ _ 47 rfl w2.heap.size 3 i0 _ 1 8 Try.underlying47 hi0 hz0 hz1 hz2 rfl (by decide) _ _ _ rfl HOL.out ⟨gB, 0, none⟩ M cB (cellsZ B) rfl hlen2 hnews hone (by unfold maxLen; omega) (by omega) (Nat.le_refl _) ?_)
  intro v3 w3 hown3 hgrow3 _
  obtain ⟨gO, cO, hvO, hgO1, hgO2⟩ := hown3.form (by omega)
  subst hvO
  have g3 : Gr [] w2 w3 := gr_grown hgrow3
  have HB3 := Lib.hid (own_gr0 HB2.out g3)
  have HO3 := Lib.hid hown3
  have H3 := Lib.hid (H2.out.next0 g3)
  have hne : gB ≠ gO := by omega
  have hszw : w.heap.size ≤ w2.heap.size := H2.out.size
  clear hown3 hgrow3 g3 hnews hlen2 hone HOL HB2 d1 d2 d3 d4 d5
  go_wp2_with fail
  go_loopw [13] (fun q wr => ∃ k : Nat, k ≤ n ∧ q = .int .i64 k ∧ Hid (∀ j, j < k → B[i + j]? = some (-1)) ∧ wr.ownsRow w2.heap.size 3 1 (.slice (some ⟨gO, 0, none⟩) M cO) M (cellsZ (fillW B i k a)) ∧ Gr [gO] w3 wr) (fun q _ => n - (intOf q).toNat)
  case atStart => exact ⟨0, by omega, rfl, Lib.hid (fun j hj => by omega), by rw [fillW_zero]; exact HO3.out, Gr.refl _ _⟩
  case round =>
    obtain ⟨k, hk, rfl, HAL, ho, G⟩ := hrel
    have HQ := Lib.hid (And.intro ho G)
    have hgw : gO < wr.heap.size := (ho.lt gO rfl).2
    by_cases hkn : k < n
    · have hkn2 : (k : Int) < (n : Int) := by omega
      obtain ⟨x, hx⟩ : ∃ x, B[i + k]? = some x := ⟨_, List.getElem?_eq_getElem (by have := HM.out; omega)⟩
      have y0 : wr.cell? ⟨gB, i + k, none⟩ = some (.int .i64 x) := by
        have hb3 := (own_gr HB3.out G (fun b hb hm => by
          have e1 : gB = b := by simpa [Value.ownBlock] using hb
          simp at hm
          omega)).cellAt (i + k) (by omega)
        rw [hb3]
        simp only [cellsZ, List.getElem?_map, hx]; rfl
      have hw1 : IntKind.i64.wrap ((i : Int) + (k : Int)) = (i : Int) + (k : Int) := IntWalk.i64_in _ (by omega)
      have hb0 : (0 : Int) ≤ (i : Int) + (k : Int) := by omega
      have hb1 : (i : Int) + (k : Int) < (M : Int) := by omega
      have ht : ((i : Int) + (k : Int)).toNat = i + k := by omega
      by_cases hneg : x = -1
      · subst hneg
        have y1 : wr.cell? ⟨gO, i + k, none⟩ = some (.int .i64 (-1)) := by
          rw [ho.cellAt _ (by omega)]
          simp only [cellsZ, List.getElem?_map]
          rw [fillW_far _ _ _ _ _ (Nat.le_refl _) (by have := HM.out; omega), hx]; rfl
        have yf : wr.frozen? ⟨gO, i + k, none⟩ = false := ho.frozenAt _
        obtain ⟨ak, hw2⟩ : ∃ ak, IntKind.i64.wrap (a + (k : Int)) = ak := ⟨_, rfl⟩
        have HUP := Lib.hid (show (wr.setCell ⟨gO, i + k, none⟩ (.int .i64 ak)).ownsRow w2.heap.size 3 1 (.slice (some ⟨gO, 0, none⟩) M cO) M (cellsZ (fillW B i (k + 1) a)) ∧ Gr [gO] w3 (wr.setCell ⟨gO, i + k, none⟩ (.int .i64 ak)) from by
          have s1 := (ho.stored (i + k) (.int .i64 ak)).1
          rw [cellsZ_set, ← hw2, fillW_set _ _ _ _ (by have := HM.out; omega)] at s1
          rw [hw2] at s1
          exact ⟨s1, G.setCell (p := ⟨gO, i + k, none⟩) (.inl (by simp)) _⟩)
        have HAL2 := Lib.hid (show ∀ j, j < k + 1 → B[i + j]? = some (-1) from fun j hj => by
          by_cases q : j = k
          · subst q; exact hx
          · exact HAL.out j (by omega))
        clear ho G hx
        go_wp2_with fail
        go_roundw
        case rel => exact ⟨k + 1, by omega, by go_num, HAL2, HUP.out.1, HUP.out.2⟩
        case measure => simp [intOf]; omega
      · have hd : (x == -1) = false := by simp [hneg]
        have HPOS := Lib.hid (show 0 < hz by
          refine Int.not_le.1 fun q => ?_
          have := HHO.out.1 q k hkn
          rw [hx] at this
          injection this with this
          exact hneg this)
        have HG := Lib.hid (H3.out.nextN G (fun y hy => by simp at hy; subst hy; exact .inr (by omega)))
        clear ho G hx
        go_wp2_with fail
        exact bodyPost_ret (v := .tuple #[.slice none 0 0, .int .i64 2]) (by simp [results, Try.results56, go_sem]) rfl ⟨HG.out, .inl ⟨HPOS.out, rfl⟩⟩
    · obtain rfl : k = n := by omega
      have HNP := Lib.hid (HHO.out.2 HAL.out)
      have hfl := fillW_len B i k a (by have := HM.out; omega)
      rw [← HM.out] at hfl
      have H5 := Lib.hid (H3.out.nextN G (fun y hy => by simp at hy; subst hy; exact .inr (by omega)))
      obtain ⟨Z, hZ⟩ : ∃ Z, Z = fillW B i k a := ⟨_, rfl⟩
      rw [← hZ] at ho HFI hfl
      have HRN := Lib.hid (rruns_W Z M (some ⟨gO, 0, none⟩) cO wr (own_rdZ ho) hfl.symm (by omega))
      clear ho G hZ hfl HQ
      go_wp2_with fail
      refine HRN.out.mono ?_
      rintro e w8 ⟨vJ, rfl, oJ, g8⟩
      obtain ⟨J, hJ⟩ : ∃ J, J = runsW Z := ⟨_, rfl⟩
      rw [← hJ] at oJ HFI
      obtain ⟨aJ, cJ, rfl, rJ, -, -⟩ := own_parts oJ
      have H8 := Lib.hid (H5.out.next0 g8)
      have HC9 := Lib.hid (rright15_no J J.length aJ cJ w8 rJ rfl HFI.out)
      clear oJ g8 HRN H5 rJ hJ
      go_wp2_with fail
      refine HC9.out.mono ?_
      rintro e w9 ⟨rfl, g9⟩
      have H9 := Lib.hid (H8.out.next0 g9)
      clear g9 H8 HC9
      go_wp2_with fail
      exact bodyPost_ret (v := .tuple #[.slice none 0 0, .int .i64 7]) (by simp [results, Try.results56, go_sem]) rfl ⟨H9.out, .inr ⟨HNP.out, rfl⟩⟩

end Go.Proofs.Ytpkhfdcokcchdaa

/-
  Layer 15: the program's and the reference's Append, Fill and Cut give the same, for every argument.
-/
namespace Go.Proofs.Ytpkhfdcokcchdaa
open Go.RowKit

theorem sl2_nil0 (w : World) : Sl2 w (.slice none 0 0) [] := ⟨none, 0, rfl, Rd2.nil _ _, Nat.le_refl _, Nat.zero_le _, fun _ => rfl⟩
open Classical in
noncomputable def appO (l : List (Int × Int)) (a n : Int) : Int × List (Int × Int) :=
  if Right15 l then (if Right15 [(a, n)] ∧ Right15 (joinP (l ++ [(a, n)])) then (0, joinP (l ++ [(a, n)])) else (7, [])) else (2, [])
theorem eapp_O (l : List (Int × Int)) (L : Nat) (ao : Option Addr) (cap : Nat) (a n : Int) (w : World) (h : Sl2 w (.slice ao L cap) l) :
    Calls Try.prog 53 #[.slice ao L cap, .agg #[.int .i64 a, .int .i64 n]] w fun e w' => ∃ v, e = .returned (.tuple #[v, .int .i64 (appO l a n).1]) ∧ Sl2 w' v (appO l a n).2 ∧ Gr [] w w' := by
  refine (eappend_any l L ao cap a n w h).mono ?_
  rintro e w' ⟨g, ⟨h1, rfl⟩ | ⟨h1, h2, rfl⟩ | ⟨h1, h2, h3, ao', cap', rfl, hs⟩⟩
  · have : appO l a n = (2, []) := by unfold appO; rw [if_neg h1]
    rw [this]; exact ⟨_, rfl, sl2_nil0 _, g⟩
  · have : appO l a n = (7, []) := by unfold appO; rw [if_pos h1, if_neg h2]
    rw [this]; exact ⟨_, rfl, sl2_nil0 _, g⟩
  · have : appO l a n = (0, joinP (l ++ [(a, n)])) := by unfold appO; rw [if_pos h1, if_pos ⟨h2, h3⟩]
    rw [this]; exact ⟨_, rfl, hs, g⟩
theorem rapp_O (l : List (Int × Int)) (L : Nat) (ao : Option Addr) (cap : Nat) (a n : Int) (w : World) (h : Sl2 w (.slice ao L cap) l) :
    Calls Try.prog 54 #[.slice ao L cap, .int .i64 a, .int .i64 n] w fun e w' => ∃ v, e = .returned (.tuple #[v, .int .i64 (appO l a n).1]) ∧ Sl2 w' v (appO l a n).2 ∧ Gr [] w w' := by
  refine (rappend_any l L ao cap a n w (sl2_parts h).2.1 (sl2_parts h).1).mono ?_
  rintro e w' ⟨g, ⟨h1, rfl⟩ | ⟨h1, h2, rfl⟩ | ⟨h1, h2, h3, v, rfl, hs⟩⟩
  · have : appO l a n = (2, []) := by unfold appO; rw [if_neg h1]
    rw [this]; exact ⟨_, rfl, sl2_nil0 _, g⟩
  · have : appO l a n = (7, []) := by unfold appO; rw [if_pos h1, if_neg h2]
    rw [this]; exact ⟨_, rfl, sl2_nil0 _, g⟩
  · have : appO l a n = (0, joinP (l ++ [(a, n)])) := by unfold appO; rw [if_pos h1, if_pos ⟨h2, h3⟩]
    rw [this]; exact ⟨_, rfl, hs, g⟩

open Classical in
noncomputable def cutO (l : List (Int × Int)) (n : Int) : Int × List (Int × Int) × List (Int × Int) :=
  if Right15 l ∧ 0 ≤ n ∧ n ≤ sumZ l then (0, firstP l n, (restP l n).filter solidB) else (2, [], [])
theorem cut_cases (l : List (Int × Int)) (n : Int) : (Right15 l ∧ ∃ k : Nat, n = k ∧ (k : Int) ≤ sumZ l ∧ cutO l n = (0, firstP l k, (restP l k).filter solidB)) ∨ (Right15 l ∧ (n < 0 ∨ sumZ l < n) ∧ cutO l n = (2, [], [])) ∨ (¬ Right15 l ∧ cutO l n = (2, [], [])) := by
  by_cases hr : Right15 l
  · by_cases hn : 0 ≤ n ∧ n ≤ sumZ l
    · refine .inl ⟨hr, n.toNat, by omega, by omega, ?_⟩
      unfold cutO
      rw [if_pos ⟨hr, hn⟩, show ((n.toNat : Nat) : Int) = n by omega]
    · exact .inr (.inl ⟨hr, by omega, by unfold cutO; rw [if_neg (fun q => hn q.2)]⟩)
  · exact .inr (.inr ⟨hr, by unfold cutO; rw [if_neg (fun q => hr q.1)]⟩)
theorem ecut_O (l : List (Int × Int)) (L : Nat) (ao : Option Addr) (cap : Nat) (n : Int) (w : World) (h : Sl2 w (.slice ao L cap) l) :
    Calls Try.prog 57 #[.slice ao L cap, .int .i64 n] w fun e w' => ∃ vA vF, e = .returned (.tuple #[vA, vF, .int .i64 (cutO l n).1]) ∧ Sl2 w' vA (cutO l n).2.1 ∧ Sl2 w' vF (cutO l n).2.2 ∧ Gr [] w w' := by
  rcases cut_cases l n with ⟨hr, k, rfl, hk, e⟩ | ⟨hr, hn, e⟩ | ⟨hr, e⟩
  · rw [e]; exact ecut_yes l L k ao cap w h hr hk
  · rw [e]
    refine (ecut_far l L n ao cap w h hr hn).mono ?_
    rintro e w' ⟨rfl, g⟩
    exact ⟨_, _, rfl, sl2_nil0 _, sl2_nil0 _, g⟩
  · rw [e]
    refine (ecut_no l L n ao cap w h hr).mono ?_
    rintro e w' ⟨rfl, g⟩
    exact ⟨_, _, rfl, sl2_nil0 _, sl2_nil0 _, g⟩
theorem rcut_O (l : List (Int × Int)) (L : Nat) (ao : Option Addr) (cap : Nat) (n : Int) (w : World) (h : Sl2 w (.slice ao L cap) l) :
    Calls Try.prog 58 #[.slice ao L cap, .int .i64 n] w fun e w' => ∃ vA vF, e = .returned (.tuple #[vA, vF, .int .i64 (cutO l n).1]) ∧ Sl2 w' vA (cutO l n).2.1 ∧ Sl2 w' vF (cutO l n).2.2 ∧ Gr [] w w' := by
  rcases cut_cases l n with ⟨hr, k, rfl, hk, e⟩ | ⟨hr, hn, e⟩ | ⟨hr, e⟩
  · rw [e]; exact rcut_yes l L k ao cap w (sl2_parts h).2.1 (sl2_parts h).1 hr hk
  · rw [e]
    refine (rcut_far l L n ao cap w h hr hn).mono ?_
    rintro e w' ⟨rfl, g⟩
    exact ⟨_, _, rfl, sl2_nil0 _, sl2_nil0 _, g⟩
  · rw [e]
    refine (rcut_no l L n ao cap w h hr).mono ?_
    rintro e w' ⟨rfl, g⟩
    exact ⟨_, _, rfl, sl2_nil0 _, sl2_nil0 _, g⟩

end Go.Proofs.Ytpkhfdcokcchdaa

/-
  Layer 15: the program's and the reference's Fill give the same, for every argument.
-/
namespace Go.Proofs.Ytpkhfdcokcchdaa
open Go.RowKit

theorem fillP_big {l : List (Int × Int)} (h : Right15 l) {i n : Nat} {a : Int} (ha : 900000 < a) (hn : 1 ≤ n) : ¬ Right15 (joinP (fillP l i n a)) := by
  have h2 := split_ok (l := l) (n := (i : Int)) (B := 65536) (by omega) h.all h.apart
  have h4 := split_ok (l := restP l i) (n := (n : Int)) (B := 131072) (by omega) h2.2.1 h2.2.2.2.1
  have hok : ∀ p ∈ fillP l i n a, okR p := by
    intro p hp
    unfold fillP at hp
    rcases List.mem_append.1 hp with q | q
    · rcases List.mem_append.1 q with q | q
      · have := h2.1 p q; exact ⟨this.1, this.2.2.1⟩
      · simp at q; subst q; exact ⟨by simp only; omega, by simp only; omega⟩
    · have := h4.2.1 p q; exact ⟨this.1, this.2.2.1⟩
  intro hr
  have hm : a ∈ blk (joinP (fillP l i n a)) := by
    rw [blk_join hok]
    unfold fillP
    rw [blk_append, blk_append]
    refine List.mem_append.2 (.inl (List.mem_append.2 (.inr ?_)))
    rw [blk_cons, blk_nil, List.append_nil]
    unfold blkR
    refine List.mem_map.2 ⟨0, List.mem_range.2 (by simp only; omega), ?_⟩
    rw [if_neg (by simp only; omega)]
    simp
  obtain ⟨e, he, hx⟩ := List.mem_flatMap.1 hm
  have := hr.all e he
  rcases blkR_mem hx with q | q <;> omega
open Classical in
noncomputable def fillO (l : List (Int × Int)) (i a n : Int) : Int × List (Int × Int) :=
  if Right15 l ∧ 0 ≤ a ∧ 1 ≤ n ∧ 0 ≤ i ∧ i + n ≤ sumZ l ∧ heldZ (firstP (restP l i) n) ≤ 0 then (if Right15 (joinP (fillP l i.toNat n.toNat a)) then (0, joinP (fillP l i.toNat n.toNat a)) else (7, [])) else (2, [])
theorem fill_cases (l : List (Int × Int)) (i a n : Int) : (Right15 l ∧ 0 ≤ a ∧ ∃ I N : Nat, i = I ∧ n = N ∧ 1 ≤ N ∧ (I : Int) + N ≤ sumZ l) ∨ (Right15 l ∧ (a < 0 ∨ n < 1 ∨ i < 0 ∨ sumZ l < n ∨ sumZ l - n < i) ∧ fillO l i a n = (2, [])) ∨ (¬ Right15 l ∧ fillO l i a n = (2, [])) := by
  by_cases hr : Right15 l
  · by_cases hn : 0 ≤ a ∧ 1 ≤ n ∧ 0 ≤ i ∧ i + n ≤ sumZ l
    · exact .inl ⟨hr, hn.1, i.toNat, n.toNat, by omega, by omega, by omega, by omega⟩
    · refine .inr (.inl ⟨hr, by omega, ?_⟩)
      unfold fillO
      rw [if_neg (fun q => hn ⟨q.2.1, q.2.2.1, q.2.2.2.1, q.2.2.2.2.1⟩)]
  · exact .inr (.inr ⟨hr, by unfold fillO; rw [if_neg (fun q => hr q.1)]⟩)
theorem fillO_in {l : List (Int × Int)} {I N : Nat} {a : Int} (hr : Right15 l) (ha : 0 ≤ a) (hN : 1 ≤ N) (hs : (I : Int) + N ≤ sumZ l) :
    (0 < heldZ (firstP (restP l I) N) → fillO l I a N = (2, [])) ∧
    (heldZ (firstP (restP l I) N) ≤ 0 → ¬ Right15 (joinP (fillP l I N a)) → fillO l I a N = (7, [])) ∧
    (heldZ (firstP (restP l I) N) ≤ 0 → Right15 (joinP (fillP l I N a)) → fillO l I a N = (0, joinP (fillP l I N a))) := by
  refine ⟨fun h => ?_, fun h h2 => ?_, fun h h2 => ?_⟩
  · unfold fillO
    rw [if_neg (fun q => by have := q.2.2.2.2.2; omega)]
  · unfold fillO
    rw [if_pos ⟨hr, ha, by omega, by omega, hs, h⟩]
    simp only [Int.toNat_natCast]
    rw [if_neg h2]
  · unfold fillO
    rw [if_pos ⟨hr, ha, by omega, by omega, hs, h⟩]
    simp only [Int.toNat_natCast]
    rw [if_pos h2]
theorem efill_O (l : List (Int × Int)) (L : Nat) (ao : Option Addr) (cap : Nat) (i a n : Int) (w : World) (h : Sl2 w (.slice ao L cap) l) (ha2 : a ≤ 9223372036854775807) :
    Calls Try.prog 55 #[.slice ao L cap, .int .i64 i, .agg #[.int .i64 a, .int .i64 n]] w fun e w' => ∃ v, e = .returned (.tuple #[v, .int .i64 (fillO l i a n).1]) ∧ Sl2 w' v (fillO l i a n).2 ∧ Gr [] w w' := by
  rcases fill_cases l i a n with ⟨hr, ha, I, N, rfl, rfl, hN, hs⟩ | ⟨hr, hn, e⟩ | ⟨hr, e⟩
  · obtain ⟨f1, f2, f3⟩ := fillO_in hr ha hN hs
    refine (efill_ok l L I N a ao cap w h hr ha ha2 hN hs).mono ?_
    rintro e w' ⟨g, ⟨h1, rfl⟩ | ⟨h1, h2, rfl⟩ | ⟨h1, h2, ao', cap', rfl, hsl⟩⟩
    · rw [f1 h1]; exact ⟨_, rfl, sl2_nil0 _, g⟩
    · rw [f2 h1 h2]; exact ⟨_, rfl, sl2_nil0 _, g⟩
    · rw [f3 h1 h2]; exact ⟨_, rfl, hsl, g⟩
  · rw [e]
    refine (efill_far l L i a n ao cap w h hr hn).mono ?_
    rintro e w' ⟨rfl, g⟩
    exact ⟨_, rfl, sl2_nil0 _, g⟩
  · rw [e]
    refine (efill_no l L i a n ao cap w h hr).mono ?_
    rintro e w' ⟨rfl, g⟩
    exact ⟨_, rfl, sl2_nil0 _, g⟩
theorem rfill_O (l : List (Int × Int)) (L : Nat) (ao : Option Addr) (cap : Nat) (i a n : Int) (w : World) (h : Sl2 w (.slice ao L cap) l) (ha2 : a ≤ 9223372036854775807) :
    Calls Try.prog 56 #[.slice ao L cap, .int .i64 i, .int .i64 a, .int .i64 n] w fun e w' => ∃ v, e = .returned (.tuple #[v, .int .i64 (fillO l i a n).1]) ∧ Sl2 w' v (fillO l i a n).2 ∧ Gr [] w w' := by
  rcases fill_cases l i a n with ⟨hr, ha, I, N, rfl, rfl, hN, hs⟩ | ⟨hr, hn, e⟩ | ⟨hr, e⟩
  · obtain ⟨f1, f2, f3⟩ := fillO_in hr ha hN hs
    by_cases hb : a ≤ 900000
    · refine (rfill_ok l L I N a ao cap w (sl2_parts h).2.1 (sl2_parts h).1 hr ha hb hN hs).mono ?_
      rintro e w' ⟨g, ⟨h1, rfl⟩ | ⟨h1, h2, rfl⟩ | ⟨h1, h2, v, rfl, hsl⟩⟩
      · rw [f1 h1]; exact ⟨_, rfl, sl2_nil0 _, g⟩
      · rw [f2 h1 h2]; exact ⟨_, rfl, sl2_nil0 _, g⟩
      · rw [f3 h1 h2]; exact ⟨_, rfl, hsl, g⟩
    · refine (rfill_big l L I N a ao cap w (sl2_parts h).2.1 (sl2_parts h).1 hr (by omega) ha2 hN hs).mono ?_
      rintro e w' ⟨g, ⟨h1, rfl⟩ | ⟨h1, rfl⟩⟩
      · rw [f1 h1]; exact ⟨_, rfl, sl2_nil0 _, g⟩
      · rw [f2 h1 (fillP_big hr (by omega) hN)]; exact ⟨_, rfl, sl2_nil0 _, g⟩
  · rw [e]
    refine (rfill_far l L i a n ao cap w h hr hn).mono ?_
    rintro e w' ⟨rfl, g⟩
    exact ⟨_, rfl, sl2_nil0 _, g⟩
  · rw [e]
    refine (rfill_no l L i a n ao cap w h hr).mono ?_
    rintro e w' ⟨rfl, g⟩
    exact ⟨_, rfl, sl2_nil0 _, g⟩

end Go.Proofs.Ytpkhfdcokcchdaa

/-
  Layer 15: list and tame of what a law's slice argument may be.
-/
namespace Go.Proofs.Ytpkhfdcokcchdaa
open Go.RowKit

/-- What a slice of pairs may be: empty (anywhere), or so many pairs from an address on. -/
def Src (w : World) (v : Value) (l : List (Int × Int)) : Prop :=
  (l = [] ∧ ∃ ao cap, v = .slice ao 0 cap ∧ (ao = none → cap = 0) ∧ cap ≤ maxLen) ∨
  ∃ b o cap, v = .slice (some ⟨b, o, none⟩) l.length cap ∧ Rd2 w (some ⟨b, o, none⟩) l ∧ l.length ≤ cap ∧ cap ≤ maxLen
theorem Src.gr0 {w w' : World} {v : Value} {l : List (Int × Int)} (h : Src w v l) (g : Gr [] w w') : Src w' v l := by
  rcases h with h | ⟨b, o, cap, h1, h2, h3, h4⟩
  · exact .inl h
  · exact .inr ⟨b, o, cap, h1, h2.gr0 g, h3, h4⟩
theorem src_own {w : World} {base : Nat} {t : TypeId} {v : Value} {l : List (Int × Int)} (h : w.ownsRow base t 2 v l.length (cells2 l)) : Src w v l := by
  have hs := own_sl2 h
  rcases h.2 with ⟨q1, q2⟩ | ⟨g, cap', cur, q, hb, hg, h1, h2, h3, h4⟩
  · subst q1
    exact .inl ⟨(nil_of_none hs).1, none, 0, rfl, fun _ => rfl, Nat.zero_le _⟩
  · subst q
    obtain ⟨_, hr, hc, hm, _⟩ := sl2_parts hs
    exact .inr ⟨g, 0, cap', rfl, hr, hc, hm⟩
theorem src_of {w : World} {v : Value} (h : SlN 2 w v) : ∃ l : List (Int × Int), Src w v l ∧ ∀ e ∈ l, (-9223372036854775808 ≤ e.1 ∧ e.1 ≤ 9223372036854775807) ∧ (-9223372036854775808 ≤ e.2 ∧ e.2 ≤ 9223372036854775807) := by
  rcases h with ⟨ao, cap, rfl, hn, hm⟩ | ⟨b, off, n, cap, f, rfl, h0, hc, hm, hb, hx⟩
  · exact ⟨[], .inl ⟨rfl, ao, cap, rfl, hn, hm⟩, fun e he => by simp at he⟩
  · refine ⟨(List.range n).map fun i => (f i 0, f i 1), .inr ⟨b, off, cap, by simp, fun i e hi => ?_, by simpa using hc, hm⟩, fun e he => ?_⟩
    · have hin : i < n := by
        have := (List.getElem?_eq_some_iff.1 hi).1
        simpa using this
      rw [List.getElem?_map, List.getElem?_range hin] at hi
      simp at hi
      subst hi
      exact ⟨b, off, rfl, hb, (hx i hin 0 (by omega)).1, (hx i hin 1 (by omega)).1⟩
    · obtain ⟨i, hi, rfl⟩ := List.mem_map.1 he
      have hin := List.mem_range.1 hi
      exact ⟨(hx i hin 0 (by omega)).2, (hx i hin 1 (by omega)).2⟩
theorem elist_zero (ao : Option Addr) (cap : Nat) (w : World) (_hO : ao = none → cap = 0) (_hmax : cap ≤ maxLen) :
    Calls Try.prog 41 #[.slice ao 0 cap] w fun e w' => e = .returned (.tuple #[.slice none 0 0, .slice ao 0 cap]) ∧ Gr [] w w' := by
  have hmn := minZ Try.prog 0 70 0 (by omega)
  unfold maxLen at _hmax
  go_enter Try.func41, Try.ntmps41
  go_wp2_with fail
  clear hmn
  go_loopw [4, 14] (fun v i wr => v = .slice none 0 0 ∧ i = .int .i64 0 ∧ wr = w) (fun _ _ _ => 0)
  case atStart => exact ⟨rfl, rfl, rfl⟩
  case round =>
    obtain ⟨rfl, rfl, rfl⟩ := hrel
    go_wp2_with fail
    exact bodyPost_ret (v := .tuple #[.slice none 0 0, .slice ao 0 cap]) (by simp [results, Try.results41, go_sem]) rfl ⟨rfl, Gr.refl _ _⟩
theorem elist_src (l : List (Int × Int)) (v : Value) (w : World) (h : Src w v l) :
    Calls Try.prog 41 #[v] w fun e w' => ∃ v1 v2, e = .returned (.tuple #[v1, v2]) ∧ Sl2 w' v1 (l.take 70) ∧ Sl2 w' v2 (l.take 70) ∧ Gr [] w w' := by
  rcases h with ⟨rfl, ao, cap, rfl, hn, hm⟩ | ⟨b, o, cap, rfl, hr, hc, hm⟩
  · refine (elist_zero ao cap w hn hm).mono ?_
    rintro e w' ⟨rfl, g⟩
    exact ⟨_, _, rfl, sl2_nil0 _, ⟨ao, cap, rfl, Rd2.nil _ _, Nat.zero_le _, hm, hn⟩, g⟩
  · refine (elist_some l l.length b o cap w hr rfl hc hm).mono ?_
    rintro e w' ⟨v1, rfl, ho, g⟩
    have ht : l.take (min l.length 70) = l.take 70 := by
      by_cases q : l.length ≤ 70
      · rw [Nat.min_eq_left q, List.take_length, List.take_of_length_le q]
      · rw [Nat.min_eq_right (by omega)]
    rw [ht] at ho
    have hl : (l.take 70).length = min l.length 70 := by rw [List.length_take]; omega
    exact ⟨_, _, rfl, own_sl2 ho, ⟨_, cap, by rw [hl], (hr.gr0 g).take 70, by omega, hm, fun q => by cases q⟩, g⟩
theorem etame_src (l : List (Int × Int)) (v : Value) (w : World) (h : Src w v l) :
    Calls Try.prog 40 #[v] w fun e w' => ∃ v', e = .returned v' ∧ Src w' v' (tamed l) ∧ Gr [] w w' := by
  rcases h with ⟨rfl, ao, cap, rfl, hn, hm⟩ | ⟨b, o, cap, rfl, hr, hc, hm⟩
  · refine (etame_zero ao cap w hn hm).mono ?_
    rintro e w' ⟨v', rfl, ho, g⟩
    exact ⟨_, rfl, src_own ho, g⟩
  · refine (etame_some l l.length b o cap w hr rfl hc).mono ?_
    rintro e w' ⟨v', rfl, ho, g⟩
    exact ⟨_, rfl, src_own ho, g⟩

theorem appO_len (l : List (Int × Int)) (a n : Int) : (appO l a n).2.length ≤ 64 := by
  unfold appO
  split
  · split
    · rename_i h; exact h.2.1
    · simp
  · simp
theorem fillO_len (l : List (Int × Int)) (i a n : Int) : (fillO l i a n).2.length ≤ 64 := by
  unfold fillO
  split
  · split
    · rename_i h; exact h.1
    · simp
  · simp
theorem cutO_len (l : List (Int × Int)) (n : Int) : (cutO l n).2.1.length ≤ 64 ∧ (cutO l n).2.2.length ≤ 64 := by
  rcases cut_cases l n with ⟨hr, k, rfl, hk, e⟩ | ⟨hr, hn, e⟩ | ⟨hr, e⟩
  · rw [e]
    have h2 := split_ok (l := l) (n := (k : Int)) (B := 65536) (by omega) hr.all hr.apart
    have h3 := List.length_filter_le solidB (restP l k)
    have h4 := hr.1
    exact ⟨by have := h2.2.2.2.2.1; simp only; omega, by have := h2.2.2.2.2.2.1; simp only; omega⟩
  · rw [e]; simp
  · rw [e]; simp
/-- same, of two slices that hold the same list. -/
theorem esame_sl2 (l : List (Int × Int)) (v v2 : Value) (w : World) (h : Sl2 w v l) (h2 : Sl2 w v2 l) (hl : l.length ≤ 1000) :
    Calls Try.prog 51 #[v, v2] w fun e w' => e = .returned (.bool true) ∧ Gr [] w w' := by
  obtain ⟨ao, cap, rfl, hr, -⟩ := h
  obtain ⟨ao2, cap2, rfl, hr2, -⟩ := h2
  exact esame_yes l l.length ao ao2 cap cap2 w hr hr2 rfl hl

end Go.Proofs.Ytpkhfdcokcchdaa
