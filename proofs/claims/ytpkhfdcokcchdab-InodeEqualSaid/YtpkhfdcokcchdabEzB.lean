/-
  Layer 15: the program's Parse.
-/
import Derived.Test.YtpkhfdcokcchdabEzA
import Derived.Test.YtpkhfdcokcchdabExC
import Derived.Deep.RegionHeld3
namespace Go.Proofs.Ytpkhfdcokcchdab
open Go.RowKit

def strOf : Value → Nat
  | .string s => s.size
  | _ => 0
theorem extr_list (s : ByteArray) (i j : Nat) : (s.extract i j).data.toList = (s.data.toList.drop i).take (j - i) := by
  rw [ByteArray.data_extract, Array.toList_extract, List.extract_eq_take_drop]
theorem get4_any (x : ByteArray) (n : Nat) (w : World) (hx : x.size ≤ 8) (hn : getL x.data.toList = n) :
    Calls Try.prog 41 #[.string x] w fun e w' => e = .returned (.int .u64 n) ∧ w' = w := by
  subst hn
  refine (get_any x w (by unfold maxLen; omega)).mono fun _ _ ⟨h1, h2⟩ => ⟨?_, h2.symm⟩
  rw [h1, List.take_of_length_le (by rw [← Lib.size_eq]; exact hx)]

set_option maxHeartbeats 2000000 in
set_option maxRecDepth 20000 in
theorem eparse_inO (s : ByteArray) (K : Nat) (w : World) (hK : s.size = 8 * K) (hK2 : K ≤ 64) :
    Calls Try.prog 42 #[.string s] w fun e w' => Gr [] w w' ∧ ((∃ ao cap, e = .returned (.tuple #[.slice ao K cap, .int .i64 0]) ∧ Sl2 w' (.slice ao K cap) (parP s.data.toList K) ∧ (∀ x, (Value.slice ao K cap).ownBlock = some x → w.heap.size ≤ x) ∧ Right15 (parP s.data.toList K)) ∨ (¬ Right15 (parP s.data.toList K) ∧ e = .returned (.tuple #[.slice none 0 0, .int .i64 4]))) := by
  obtain ⟨i0, hi0, hz0, hz1, hz2⟩ := info_parts infoExt2
  have hr1 : (s.size : Int) % 8 = 0 := by omega
  have hr2 : (s.size : Int) ≤ 512 := by omega
  have HK := Lib.hid hK
  have hlen : s.data.toList.length = 8 * K := by rw [← Lib.size_eq]; exact hK
  obtain ⟨D, hD⟩ : ∃ D, D = s.data.toList := ⟨_, rfl⟩
  have HD := Lib.hid hD
  rw [← hD] at hlen ⊢
  have HLE := Lib.hid hlen
  clear hK hD hlen
  go_enter Try.func42, Try.ntmps42
  go_wp2_with fail
  clear hr1 hr2
  go_loopw [0, 4] (fun x v wr => ∃ (k : Nat) (X : ByteArray), k ≤ K ∧ x = .string X ∧ Hid (X.data.toList = D.drop (8 * k)) ∧ Hid (X.size = 8 * (K - k)) ∧ wr.ownsRow w.heap.size 72 2 v (parP D k).length (cells2 (parP D k)) ∧ Gr [] w wr) (fun x _ _ => strOf x)
  case atStart => exact ⟨0, s, by omega, rfl, Lib.hid (by rw [HD.out]; rfl), Lib.hid (by rw [HK.out]; omega), World.ownsRow_nil _ _ _ _, Gr.refl _ _⟩
  case round =>
    obtain ⟨k, X, hk, rfl, HXD, HXS, ho, G⟩ := hrel
    have HQ := Lib.hid (And.intro ho G)
    have hsz := G.size
    clear ho G
    by_cases hkK : k < K
    · have hX8 : 8 ≤ X.size := by rw [HXS.out]; omega
      have hX9 : X.size ≤ 512 := by rw [HXS.out]; omega
      obtain ⟨n1, hn1⟩ : ∃ n1, n1 = getL (X.extract 0 4).data.toList := ⟨_, rfl⟩
      obtain ⟨n2, hn2⟩ : ∃ n2, n2 = getL (X.extract 4 8).data.toList := ⟨_, rfl⟩
      have HG1 := Lib.hid (fun W => get4_any (X.extract 0 4) n1 W (by rw [ByteArray.size_extract]; omega) hn1.symm)
      have HG2 := Lib.hid (fun W => get4_any (X.extract 4 8) n2 W (by rw [ByteArray.size_extract]; omega) hn2.symm)
      have HPB := Lib.hid (show pairB (D.drop (8 * k)) = ((n1 : Int) - 1, (n2 : Int)) by
        unfold pairB
        rw [← HXD.out, hn1, hn2, extr_list, extr_list]
        rfl)
      have hbd := pairB_bd (D.drop (8 * k))
      rw [HPB.out] at hbd
      simp only at hbd
      have HUP := Lib.hid (parP_up D k)
      rw [HPB.out] at HUP
      have hw1 : IntKind.i64.wrap (n1 : Int) = n1 := IntWalk.i64_in _ (by omega)
      have hw2 : IntKind.i64.wrap ((n1 : Int) - 1) = (n1 : Int) - 1 := IntWalk.i64_in _ (by omega)
      have hw3 : IntKind.i64.wrap (n2 : Int) = n2 := IntWalk.i64_in _ (by omega)
      have hXe : X.toList.isEmpty = false := by
        rw [ByteArray.toList_eq]
        have := Lib.size_eq X
        cases hq : X.data.toList with
        | nil => rw [hq, List.length_nil] at this; omega
        | cons a b => rfl
      have hX8i : (8 : Int) ≤ (X.size : Int) := by omega
      have hX4i : (4 : Int) ≤ (X.size : Int) := by omega
      have hX4 : 4 ≤ X.size := by omega
      clear hn1 hn2
      go_wp2_with fail
      go_region_held3 (fun _ : World => True) (trivial) ((first
        | (go_at_call 41; (with_reducible refine (HG1.out _).mono ?_); rintro r w10 ⟨rfl, rfl⟩)
        | (go_at_call 41; (with_reducible refine (HG2.out _).mono ?_); rintro r w10 ⟨rfl, rfl⟩)))
      all_goals
        have hzs : w.heap.size ≤ wr.drew.heap.size := hsz
        have HOY := Lib.hid (own_gr0 HQ.out.1 ((Gr.refl [] wr).drew))
        have HGY := Lib.hid (HQ.out.2.drew)
        generalize wr.drew = wy at *
        obtain ⟨C, hC⟩ : ∃ C, C = parP D k := ⟨_, rfl⟩
        have hCl : C.length = k := by rw [hC]; exact parP_len D k
        rw [← hC] at HOY HUP
        have HUPL := Lib.hid (show (parP D (k + 1)).length = C.length + 1 by rw [HUP.out]; simp)
        clear hC HQ
        have HN3 := Lib.hid (Holds.new wy #[.int .i64 ((n1 : Int) - 1), .int .i64 n2] 72)
        have HO3 := Lib.hid (HOY.out.alloc (Obj.cells #[.int .i64 ((n1 : Int) - 1), .int .i64 n2] 72))
        have hone : ∀ u ∈ [Value.int .i64 ((n1 : Int) - 1), .int .i64 n2], u.oneCell' = true := by simp [Value.oneCell']
        have HCL := Lib.hid hCl
        have hCb : C.length ≤ 64 := by omega
        clear hCl
        go_wp2_with (at_builtin; refine wpList_append_own _ rfl _ _ 29 rfl w.heap.size 72 i0 _ 2 16 Try.underlying29 hi0 hz0 hz1 hz2 rfl (by decide) _ _ _ rfl HO3.out ⟨wy.heap.size, 0, none⟩ 1 1 [.int .i64 ((n1 : Int) - 1), .int .i64 n2] rfl rfl (World.news_of_block HN3.out) hone (by unfold maxLen; omega) (by omega) (by rw [World.size_alloc]; omega) ?_)
        intro v4 w4 hown4 hgrow4 _
        have hlt4 := HO3.out.lt
        have HF := Lib.hid (And.intro (show w4.ownsRow w.heap.size 72 2 v4 (parP D (k + 1)).length (cells2 (parP D (k + 1))) by
          rw [HUPL.out, HUP.out, cells2_append]; exact hown4) ((HGY.out.alloc (Obj.cells #[.int .i64 ((n1 : Int) - 1), .int .i64 n2] 72)).nextN (gr_grown hgrow4) (fun x hx => .inr (hlt4 x (by simpa using hx)).1)))
        clear hown4 hgrow4 hlt4 HO3 HN3 hone
        have HXN := Lib.hid (show (X.extract 8 X.size).data.toList = D.drop (8 * (k + 1)) by
          rw [extr_list, HXD.out, List.drop_drop, List.take_of_length_le]
          · congr 1
          · rw [List.length_drop, HLE.out, HXS.out]; omega)
        have HXM := Lib.hid (show (X.extract 8 X.size).size = 8 * (K - (k + 1)) by
          rw [ByteArray.size_extract, HXS.out]; omega)
        go_wp2_with fail
        go_roundw
        case rel => exact ⟨k + 1, _, by omega, rfl, HXN, HXM, HF.out.1, HF.out.2⟩
        case measure =>
          have := HXM.out
          have := HXS.out
          simp only [strOf]
          omega
    · obtain rfl : k = K := by omega
      have hX0 : X.size = 0 := by rw [HXS.out]; omega
      have hXe : X.toList.isEmpty = true := by
        rw [ByteArray.toList_eq, List.isEmpty_iff]
        exact List.length_eq_zero_iff.1 (by rw [← Lib.size_eq]; exact hX0)
      obtain rfl : X = ⟨#[]⟩ := by
        apply ByteArray.ext
        exact Array.size_eq_zero_iff.1 hX0
      clear hX0 hXe
      obtain ⟨T, hT⟩ : ∃ T, T = parP D k := ⟨_, rfl⟩
      have hTl : T.length = k := by rw [hT]; exact parP_len D k
      rw [← hT, hTl] at HQ
      have HTD := Lib.hid hT
      obtain ⟨ao, cap, rfl⟩ := own_form2 HQ.out.1
      have hS := own_sl2 HQ.out.1
      have HS := Lib.hid hS
      have HOB := Lib.hid (fun x (hx : (Value.slice ao k cap).ownBlock = some x) => (HQ.out.1.lt x hx).1)
      have HTL := Lib.hid hTl
      have HR := Lib.hid (eright_any T k ao cap wr (sl2_parts hS).2.1 hTl.symm)
      clear hS hT hTl
      go_wp2_with fail
      refine HR.out.mono ?_
      rintro e w5 ⟨⟨bb, hbb, rfl⟩, g5⟩
      have HB := Lib.hid hbb
      have HF := Lib.hid (And.intro (HS.out.gr0 g5) (HQ.out.2.next0 g5))
      clear hbb g5
      cases bb with
      | true =>
        go_wp2_with fail
        refine bodyPost_ret (v := .tuple #[.slice ao k cap, .int .i64 0]) (by simp [results, Try.results42, go_sem]) rfl ⟨HF.out.2, .inl (by rw [← HTD.out]; exact ⟨ao, cap, rfl, HF.out.1, HOB.out, by have := HB.out; simpa using this⟩)⟩
      | false =>
        go_wp2_with fail
        refine bodyPost_ret (v := .tuple #[.slice none 0 0, .int .i64 4]) (by simp [results, Try.results42, go_sem]) rfl ⟨HF.out.2, .inr (by rw [← HTD.out]; exact ⟨by have := HB.out; simpa using this, rfl⟩)⟩
theorem eparse_in (s : ByteArray) (K : Nat) (w : World) (hK : s.size = 8 * K) (hK2 : K ≤ 64) :
    Calls Try.prog 42 #[.string s] w fun e w' => Gr [] w w' ∧ ((∃ ao cap, e = .returned (.tuple #[.slice ao K cap, .int .i64 0]) ∧ Sl2 w' (.slice ao K cap) (parP s.data.toList K) ∧ Right15 (parP s.data.toList K)) ∨ (¬ Right15 (parP s.data.toList K) ∧ e = .returned (.tuple #[.slice none 0 0, .int .i64 4]))) := by
  refine (eparse_inO s K w hK hK2).mono ?_
  rintro e w' ⟨g, ⟨ao, cap, he, hs, _, hr⟩ | ⟨hn, he⟩⟩
  · exact ⟨g, .inl ⟨ao, cap, he, hs, hr⟩⟩
  · exact ⟨g, .inr ⟨hn, he⟩⟩
theorem eparse_out (s : ByteArray) (w : World) (hs : s.size ≤ maxLen) (h : ¬ (s.size % 8 = 0 ∧ s.size ≤ 512)) :
    Calls Try.prog 42 #[.string s] w fun e w' => e = .returned (.tuple #[.slice none 0 0, .int .i64 4]) ∧ w' = w := by
  unfold maxLen at hs
  by_cases h8 : s.size % 8 = 0
  · have hr1 : (s.size : Int) % 8 = 0 := by omega
    have hr2 : (512 : Int) < (s.size : Int) := by omega
    clear h
    go_enter Try.func42, Try.ntmps42
    go_wp2_with fail
    exact bodyPost_ret (v := .tuple #[.slice none 0 0, .int .i64 4]) (by simp [results, Try.results42, go_sem]) rfl ⟨rfl, rfl⟩
  · have hr1 : ¬ (s.size : Int) % 8 = 0 := by omega
    have hr2 : ((s.size : Int) % 8 != 0) = true := by simp; omega
    clear h
    go_enter Try.func42, Try.ntmps42
    go_wp2_with fail
    exact bodyPost_ret (v := .tuple #[.slice none 0 0, .int .i64 4]) (by simp [results, Try.results42, go_sem]) rfl ⟨rfl, rfl⟩

end Go.Proofs.Ytpkhfdcokcchdab
