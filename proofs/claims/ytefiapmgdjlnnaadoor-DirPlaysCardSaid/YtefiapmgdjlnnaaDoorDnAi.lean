/-
  DnAi: DiH, DiI.
-/
import Derived.Test.YtefiapmgdjlnnaaDoorDnAh

set_option linter.unusedVariables false

/-
  Layer 17 (dir): Parse; DirNames' walk.
-/
namespace Go.Proofs.YtefiapmgdjlnnaaDoor
open Go.RowKit
set_option linter.unusedVariables false

set_option maxHeartbeats 8000000 in
set_option maxRecDepth 100000 in
theorem parse17_no (t : ByteArray) (w : World) (ht : t.size ≤ 1000) (h : t.size < 4 ∨ nameP (t.extract 4 t.size).data.toList = false) :
    Calls Tryd.prog 24 #[.string t] w fun e w' => e = .returned (.tuple #[.int .i64 0, .agg #[.string ⟨#[]⟩, .int .i64 0], .int .i64 4]) ∧ Gr [] w w' := by
  have HH := Lib.hid (Holds.new w #[.string ⟨#[]⟩, .int .i64 0] 44)
  have HG := Lib.hid ((Gr.refl [] w).alloc (Obj.cells #[.string ⟨#[]⟩, .int .i64 0] 44))
  go_enter Tryd.func24, Tryd.ntmps24
  go_upto_region 1 with fail
  generalize (w.alloc (Obj.cells #[.string ⟨#[]⟩, .int .i64 0] 44)) = w1 at *
  obtain ⟨rb, hrb⟩ : ∃ x, w.heap.size = x := ⟨_, rfl⟩
  rw [hrb] at HH ⊢
  have HRB := Lib.hid hrb
  clear hrb
  by_cases h4 : t.size < 4
  · have h4i : (t.size : Int) < 4 := by omega
    have c0 := HH.out.cell 0
    have c1 := HH.out.cell 1
    have f0 := HH.out.frozen 0
    have f1 := HH.out.frozen 1
    have HF := Lib.hid ((HG.out.setCell (p := ⟨rb, 0, none⟩) (.inr (Nat.le_of_eq HRB.out)) (.string ⟨#[]⟩)).setCell (p := ⟨rb, 1, none⟩) (.inr (Nat.le_of_eq HRB.out)) (.int .i64 0))
    clear h
    go_wp2_with fail
    exact bodyPost_ret (v := .tuple #[.int .i64 0, .agg #[.string ⟨#[]⟩, .int .i64 0], .int .i64 4]) (by simp [results, Tryd.results24, go_sem, *]) rfl ⟨rfl, HF.out⟩
  · have hn := h.resolve_left h4
    have h4i : (4 : Int) ≤ (t.size : Int) := by omega
    have h4n : 4 ≤ t.size := by omega
    have HN := Lib.hid (fun W => dname_str (t.extract 4 t.size) W)
    have e : nmE (t.extract 4 t.size).data.toList = 18 := by unfold nmE; rw [hn]; rfl
    rw [e] at HN
    clear h e hn h4
    go_wp2_with fail
    refine (HN.out _).mono ?_
    rintro e w2 ⟨rfl, b2⟩
    have H2 := Lib.hid (And.intro (HH.out.gr0 (Gr.ofBelow (cs := []) b2)) (HG.out.next0 (Gr.ofBelow (cs := []) b2)))
    clear b2
    have c0 := H2.out.1.cell 0
    have c1 := H2.out.1.cell 1
    have f0 := H2.out.1.frozen 0
    have f1 := H2.out.1.frozen 1
    have HF := Lib.hid ((H2.out.2.setCell (p := ⟨rb, 0, none⟩) (.inr (Nat.le_of_eq HRB.out)) (.string ⟨#[]⟩)).setCell (p := ⟨rb, 1, none⟩) (.inr (Nat.le_of_eq HRB.out)) (.int .i64 0))
    go_wp2_with fail
    exact bodyPost_ret (v := .tuple #[.int .i64 0, .agg #[.string ⟨#[]⟩, .int .i64 0], .int .i64 4]) (by simp [results, Tryd.results24, go_sem, *]) rfl ⟨rfl, HF.out⟩
theorem two_lt (l : List UInt8) (h : l.length = 2) : getL l ≤ 65535 := by
  have := getL_lt l
  rw [h] at this
  omega
theorem get2 (t : ByteArray) (x : Nat) (h : x + 2 ≤ t.size) (W : World) : Calls Tryd.prog 37 #[.string (t.extract x (x + 2))] W fun e w' => e = .returned (.int .u64 (getL (t.extract x (x + 2)).data.toList : Nat)) ∧ W = w' := by
  have hz : (t.extract x (x + 2)).size = 2 := by rw [ByteArray.size_extract]; omega
  have := get_any (t.extract x (x + 2)) W (by rw [hz]; unfold maxLen; omega)
  rw [List.take_of_length_le (show (t.extract x (x + 2)).data.toList.length ≤ 8 from by show (t.extract x (x + 2)).size ≤ 8; omega)] at this
  exact this
set_option maxHeartbeats 8000000 in
set_option maxRecDepth 100000 in
theorem parse17_ok (t : ByteArray) (k n : Nat) (w : World) (ht : t.size ≤ 1000) (h4 : 4 ≤ t.size) (hn : nameP (t.extract 4 t.size).data.toList = true) (hk : k = getL (t.extract 0 2).data.toList) (hm : n = getL (t.extract 2 4).data.toList) :
    Calls Tryd.prog 24 #[.string t] w fun e w' => e = .returned (.tuple #[.int .i64 (k : Int), .agg #[.string (t.extract 4 t.size), .int .i64 (n : Int)], .int .i64 0]) ∧ Gr [] w w' := by
  have HH := Lib.hid (Holds.new w #[.string ⟨#[]⟩, .int .i64 0] 44)
  have HG := Lib.hid ((Gr.refl [] w).alloc (Obj.cells #[.string ⟨#[]⟩, .int .i64 0] 44))
  have HN := Lib.hid (fun W => dname_str (t.extract 4 t.size) W)
  have e : nmE (t.extract 4 t.size).data.toList = 0 := by unfold nmE; rw [hn]; rfl
  rw [e] at HN
  have hk2 : k ≤ 65535 := by rw [hk]; exact two_lt _ (by show (t.extract 0 2).size = 2; rw [ByteArray.size_extract]; omega)
  have hn2 : n ≤ 65535 := by rw [hm]; exact two_lt _ (by show (t.extract 2 4).size = 2; rw [ByteArray.size_extract]; omega)
  have HK := Lib.hid (fun W => get2 t 0 (by omega) W)
  have HM := Lib.hid (fun W => get2 t 2 (by omega) W)
  rw [← hk] at HK
  rw [← hm] at HM
  have h4i : (4 : Int) ≤ (t.size : Int) := by omega
  have h2i : (2 : Int) ≤ (t.size : Int) := by omega
  have h2n : 2 ≤ t.size := by omega
  have u1 : IntKind.i64.wrap (k : Int) = (k : Int) := IntWalk.i64_in _ (by omega)
  have u2 : IntKind.i64.wrap (n : Int) = (n : Int) := IntWalk.i64_in _ (by omega)
  clear hk hm e hn
  go_enter Tryd.func24, Tryd.ntmps24
  go_upto_region 1 with fail
  generalize (w.alloc (Obj.cells #[.string ⟨#[]⟩, .int .i64 0] 44)) = w1 at *
  obtain ⟨rb, hrb⟩ : ∃ x, w.heap.size = x := ⟨_, rfl⟩
  rw [hrb] at HH ⊢
  have HRB := Lib.hid hrb
  clear hrb
  go_wp2_with fail
  refine (HN.out _).mono ?_
  rintro e w2 ⟨rfl, b2⟩
  have H2 := Lib.hid (And.intro (HH.out.gr0 (Gr.ofBelow (cs := []) b2)) (HG.out.next0 (Gr.ofBelow (cs := []) b2)))
  clear b2
  go_wp2_with fail
  refine (HM.out _).mono ?_
  rintro e w3 ⟨rfl, rfl⟩
  go_upto_region 4 with fail
  have hne := kp_ne w2
  have K1 := Lib.hid (fun x : Cls (Kp w2) => (HK.out x.w).mono fun _ w' q => show _ ∧ Below x.w.heap.size x.w w' from ⟨q.1, q.2 ▸ Below.refl _ _⟩)
  refine wp_region_kp_tail 9 (by kernel_rfl) (by kernel_rfl) ?_
  simp only [List.take_succ_cons, List.take_zero, List.drop_succ_cons, List.drop_zero]
  repeat (go_big_quiet_step ((rename_i x; with_reducible exact kp_call x (K1.out x))))
  with_reducible refine wpQuiet_nil ?_
  rintro _ ⟨y, rfl⟩
  have gy := Gr.ofBelow (cs := []) y.h
  have H4 := Lib.hid (And.intro (H2.out.1.gr0 gy) (H2.out.2.next0 gy))
  clear K1 hne gy H2 HK HM
  generalize y.w = w4 at *
  clear y
  have c0 := H4.out.1.cell 0
  have c1 := H4.out.1.cell 1
  have f0 := H4.out.1.frozen 0
  have f1 := H4.out.1.frozen 1
  have HF := Lib.hid ((H4.out.2.setCell (p := ⟨rb, 0, none⟩) (.inr (Nat.le_of_eq HRB.out)) (.string (t.extract 4 t.size))).setCell (p := ⟨rb, 1, none⟩) (.inr (Nat.le_of_eq HRB.out)) (.int .i64 (n : Int)))
  go_wp2_with fail
  exact bodyPost_ret (v := .tuple #[.int .i64 (k : Int), .agg #[.string (t.extract 4 t.size), .int .i64 (n : Int)], .int .i64 0]) (by simp [results, Tryd.results24, go_sem, *]) rfl ⟨rfl, HF.out⟩
end Go.Proofs.YtefiapmgdjlnnaaDoor

/-
  Layer 17 (dir): DirNames' walk.
-/
namespace Go.Proofs.YtefiapmgdjlnnaaDoor
open Go.RowKit
set_option linter.unusedVariables false

theorem minIs17 (P : Program) (L m k : Nat) (kI : Int) (hk : kI = k) (h : m = min L k) (ts : Array TypeId) (t : TypeId) (w : World) : (Builtin.min_ ts t #[.int .i64 (L : Int), .int .i64 kI]).run P w = .ok (.int .i64 (m : Int)) w := by
  subst hk
  rw [run_min_int2]
  have : (if ((k : Nat) : Int) < (L : Int) then ((k : Nat) : Int) else (L : Int)) = (m : Int) := by split <;> omega
  rw [this]
theorem seq17 {a b : ByteArray} (h : a.data.toList = b.data.toList) : a = b := ByteArray.ext (Array.ext' h)
theorem sapp17 (a b : ByteArray) : (a ++ b).data.toList = a.data.toList ++ b.data.toList := by rw [ByteArray.data_append, Array.toList_append]
theorem ext17 (t : ByteArray) (x y : Nat) : (t.extract x y).data.toList = (t.data.toList.drop x).take (y - x) := by rw [ByteArray.data_extract, Array.toList_extract]
theorem pt2_back (l : List UInt8) (h : l.length = 2) : (pt2 (getL l)).data.toList = l := by
  show (putL (getL l) 2).toArray.toList = l
  rw [List.toList_toArray, ← h]
  exact putL_getL l
/-- An entry is encoded as what it was parsed of. -/
theorem tx_back (t : ByteArray) (h4 : 4 ≤ t.size) (hn : nameP (t.extract 4 t.size).data.toList = true) : txE (t.extract 4 t.size) (getL (t.extract 2 4).data.toList : Nat) (getL (t.extract 0 2).data.toList : Nat) = t := by
  have hl : t.data.toList.length = t.size := rfl
  have l1 : (t.extract 0 2).data.toList.length = 2 := by show (t.extract 0 2).size = 2; rw [ByteArray.size_extract]; omega
  have l2 : (t.extract 2 4).data.toList.length = 2 := by show (t.extract 2 4).size = 2; rw [ByteArray.size_extract]; omega
  have k1 := two_lt _ l1
  have k2 := two_lt _ l2
  unfold txE
  rw [if_pos ⟨hn, by omega, by omega⟩, Int.toNat_natCast, Int.toNat_natCast]
  refine seq17 ?_
  rw [sapp17, sapp17, pt2_back _ l1, pt2_back _ l2, ext17, ext17, ext17, List.drop_zero, List.append_assoc]
  rw [show t.size - 4 = (t.data.toList.drop 4).length from by rw [List.length_drop, hl], List.take_length]
  rw [show List.drop 4 t.data.toList = List.drop 2 (List.drop 2 t.data.toList) from by rw [List.drop_drop], List.take_append_drop, List.take_append_drop]
theorem txE_size (s : ByteArray) (n a : Int) : (txE s n a).size ≤ 36 := by
  unfold txE
  split
  · rename_i h
    have := nameP_size h.1
    rw [ByteArray.size_append, ByteArray.size_append, pt2_size, pt2_size]; omega
  · exact Nat.zero_le _
theorem rname_str (s : ByteArray) (hs : s.size ≤ 1000) (W : World) : Calls Tryd.prog 18 #[.string s] W fun e w' => e = .returned (.int .i64 (nmE s.data.toList)) ∧ w' = W := rname_at s.data.toList W (by show s.size ≤ 4294967280; omega)
set_option maxHeartbeats 16000000 in
set_option maxRecDepth 100000 in
theorem dirnames_law (s : ByteArray) (n a : Int) (hs : s.size ≤ maxLen) (w : World) : Calls Tryd.prog 4 #[.string s, .int .i64 n, .int .i64 a] w fun e w' => e = .returned (.bool true) ∧ Gr [] w w' := by
  obtain ⟨m1, hm1⟩ : ∃ m, m = min s.size 50 := ⟨_, rfl⟩
  have hmn1 := minIs17 Tryd.prog s.size m1 50 50 rfl hm1
  have hm1a : m1 ≤ s.size := by omega
  have HM := Lib.hid (show m1 ≤ 50 by omega)
  have hbl1 : (s.size : Int) ≤ 9223372036854775807 := by unfold maxLen at hs; omega
  have im1 : (m1 : Int) ≤ (s.size : Int) := by omega
  have im10 : (0 : Int) ≤ (m1 : Int) := by omega
  have HSz := Lib.hid (show (s.extract 0 m1).size ≤ 50 from by rw [ByteArray.size_extract]; omega)
  clear hm1 hs
  go_enter Tryd.func4, Tryd.ntmps4
  go_upto_region 2 with fail
  obtain ⟨S, hS⟩ : ∃ S, S = s.extract 0 m1 := ⟨_, rfl⟩
  rw [← hS] at HSz ⊢
  clear hS hmn1 hm1a hbl1 im1 im10 HM
  have HH := Lib.hid (Holds.new w #[.string S, .int .i64 n] 44)
  have HG := Lib.hid ((Gr.refl [] w).alloc (Obj.cells #[.string S, .int .i64 n] 44))
  have HGt := Lib.hid (fun W => dget_nil S (by have := HSz.out; unfold maxLen; omega) W)
  go_upto_region 3 with fail
  generalize (w.alloc (Obj.cells #[.string S, .int .i64 n] 44)) = w1 at *
  obtain ⟨tb, htb⟩ : ∃ x, w.heap.size = x := ⟨_, rfl⟩
  rw [htb] at HH ⊢
  clear htb
  go_wp2_with fail
  refine (HGt.out _).mono ?_
  rintro e w2 ⟨rfl, rfl⟩
  clear HGt
  go_upto_region 5 with fail
  obtain ⟨q, hq⟩ : ∃ q, q = nmE S.data.toList := ⟨_, rfl⟩
  obtain ⟨X, hX⟩ : ∃ X, X = txE S n a := ⟨_, rfl⟩
  have HXs := Lib.hid (show X.size ≤ 36 by rw [hX]; exact txE_size _ _ _)
  have KW := Lib.hid (fun x : Cls (Kp w2) => (wakes17 x.w).mono fun _ w' q => show _ ∧ Below x.w.heap.size x.w w' from ⟨q.1, q.2.below0⟩)
  have KN := Lib.hid (fun x : Cls (Kp w2) => dname_str S x.w)
  have KR := Lib.hid (fun x : Cls (Kp w2) => (rname_str S (by have := HSz.out; omega) x.w).mono fun _ w' q => show _ ∧ Below x.w.heap.size x.w w' from ⟨q.1, q.2 ▸ Below.refl _ _⟩)
  have KT := Lib.hid (fun x : Cls (Kp w2) => etext_any S n a x.w)
  have KU := Lib.hid (fun x : Cls (Kp w2) => retext_any S n a x.w (by have := HSz.out; omega))
  have KP := Lib.hid (fun x : Cls (Kp w2) => (dput_nil S n x.w).mono fun _ w' q => show _ ∧ Below x.w.heap.size x.w w' from ⟨q.1, q.2 ▸ Below.refl _ _⟩)
  have KD := Lib.hid (fun x : Cls (Kp w2) => (ddrop_nil S x.w).mono fun _ w' q => show _ ∧ Below x.w.heap.size x.w w' from ⟨q.1, q.2 ▸ Below.refl _ _⟩)
  have KC := Lib.hid (fun x : Cls (Kp w2) => (dcopy_nil x.w).mono fun _ w' q => show _ ∧ Below x.w.heap.size x.w w' from ⟨q.1, q.2 ▸ Below.refl _ _⟩)
  have KL := Lib.hid (fun x : Cls (Kp w2) => (dlen_nil x.w).mono fun _ w' q => show _ ∧ Below x.w.heap.size x.w w' from ⟨q.1, q.2 ▸ Below.refl _ _⟩)
  have KI := Lib.hid (fun x : Cls (Kp w2) => (dlist_nil x.w).mono fun _ w' q => show _ ∧ Below x.w.heap.size x.w w' from ⟨q.1, q.2 ▸ Below.refl _ _⟩)
  have KB := Lib.hid (fun x : Cls (Kp w2) => (dbuckets_nil x.w).mono fun _ w' q => show _ ∧ Below x.w.heap.size x.w w' from ⟨q.1, q.2 ▸ Below.refl _ _⟩)
  have HT := Lib.hid (fun W => etext_any S n a W)
  rw [← hq] at KN KR
  rw [← hX] at KT KU HT
  have HXX := Lib.hid hX
  clear hq hX
  have k0 := kp_cell (HH.out.cell 0)
  have k1 := kp_cell (HH.out.cell 1)
  have hne := kp_ne w2
  refine wp_region_kp (by kernel_rfl) (by kernel_rfl) ?_
  repeat (go_big_quiet_step ((rename_i x; first
    | with_reducible exact kp_call x (KW.out x)
    | with_reducible exact kp_call x (KN.out x)
    | with_reducible exact kp_call x (KR.out x)
    | with_reducible exact kp_call x (KT.out x)
    | with_reducible exact kp_call x (KU.out x)
    | with_reducible exact kp_call x (KP.out x)
    | with_reducible exact kp_call x (KD.out x)
    | with_reducible exact kp_call x (KC.out x)
    | with_reducible exact kp_call x (KL.out x)
    | with_reducible exact kp_call x (KI.out x)
    | with_reducible exact kp_call x (KB.out x))))
  with_reducible refine wpQuiet_nil ?_
  rintro _ ⟨y, rfl⟩
  have gy := Gr.ofBelow (cs := []) y.h
  have H3 := Lib.hid (And.intro (HH.out.gr0 gy) (HG.out.next0 gy))
  clear k0 k1 hne gy KW KN KR KT KU KP KD KC KL KI KB HH HG
  generalize y.w = w3 at *
  clear y
  have c0 := H3.out.1.cell 0
  have c1 := H3.out.1.cell 1
  go_wp2_with fail
  refine (HT.out _).mono ?_
  rintro e w4 ⟨rfl, b4⟩
  have H4 := Lib.hid (H3.out.2.next0 (Gr.ofBelow (cs := []) b4))
  clear b4 H3 HT c0 c1
  obtain ⟨T3, hT3⟩ : ∃ T, T = (⟨#[1, 0, 2, 0]⟩ : ByteArray) ++ S := ⟨_, rfl⟩
  have HT3 := Lib.hid (show T3.size ≤ 54 from by rw [hT3, ByteArray.size_append, show (⟨#[1, 0, 2, 0]⟩ : ByteArray).size = 4 from rfl]; have := HSz.out; omega)
  have hs3 := fun (W : World) => (run_string_add_sum (P := Tryd.prog) (w := W) ⟨#[1, 0, 2, 0]⟩ S (by rw [show (⟨#[1, 0, 2, 0]⟩ : ByteArray).size = 4 from rfl]; have := HSz.out; omega)).trans (by rw [← hT3])
  clear hT3
  have H5 := Lib.hid (And.intro (Holds.new w4 #[.string S, .string X, .string T3] 9) (H4.out.alloc (Obj.cells #[.string S, .string X, .string T3] 9)))
  go_upto_region 8 with fail
  generalize (w4.alloc (Obj.cells #[.string S, .string X, .string T3] 9)) = w5 at *
  obtain ⟨gb, hgb⟩ : ∃ x, w4.heap.size = x := ⟨_, rfl⟩
  rw [hgb] at H5 ⊢
  clear hgb hs3 H4
  go_loopw [90] (fun z wr => ∃ k : Nat, k ≤ 3 ∧ z = .int .i64 (k : Int) ∧ Holds wr gb #[.string S, .string X, .string T3] 9 ∧ Gr [] w wr) (fun z _ => 3 - (intOf z).toNat)
  case atStart => exact ⟨0, by omega, rfl, H5.out.1, H5.out.2⟩
  case round =>
    clear H5
    obtain ⟨k, hk, rfl, hh, hg⟩ := hrel
    have HR := Lib.hid (And.intro hh hg)
    clear hh hg
    by_cases hlt : k < 3
    · have hd : decide ((k : Int) < 3) = true := by simp; omega
      have hd2 : (k : Int) < 3 := by omega
      have hk0 : (0 : Int) ≤ (k : Int) := by omega
      obtain ⟨t, ht, hts⟩ : ∃ t : ByteArray, wr.cell? ⟨gb, k, none⟩ = some (.string t) ∧ t.size ≤ 54 := by
        have h1 := HSz.out
        have h2 := HXs.out
        have h3 := HT3.out
        have hc := HR.out.1.cell k
        match k, hlt, hc with
        | 0, _, hc => exact ⟨S, hc, by omega⟩
        | 1, _, hc => exact ⟨X, hc, by omega⟩
        | 2, _, hc => exact ⟨T3, hc, by omega⟩
      have HTS := Lib.hid hts
      clear hts
      by_cases hp : 4 ≤ t.size ∧ nameP (t.extract 4 t.size).data.toList = true
      · as_aux_lemma =>
          obtain ⟨h4, hn⟩ := hp
          have l1 : (t.extract 0 2).data.toList.length = 2 := by show (t.extract 0 2).size = 2; rw [ByteArray.size_extract]; omega
          have l2 : (t.extract 2 4).data.toList.length = 2 := by show (t.extract 2 4).size = 2; rw [ByteArray.size_extract]; omega
          have HB := Lib.hid (tx_back t h4 hn)
          obtain ⟨pk, hpk⟩ : ∃ k, k = getL (t.extract 0 2).data.toList := ⟨_, rfl⟩
          obtain ⟨pn, hpn⟩ : ∃ k, k = getL (t.extract 2 4).data.toList := ⟨_, rfl⟩
          have HPs := Lib.hid (parse17_ok t pk pn wr (by have := HTS.out; omega) h4 hn hpk hpn)
          rw [← hpk, ← hpn] at HB
          obtain ⟨nm, hnm⟩ : ∃ s, s = t.extract 4 t.size := ⟨_, rfl⟩
          have HNs := Lib.hid (show nm.size ≤ 54 from by rw [hnm, ByteArray.size_extract]; have := HTS.out; omega)
          rw [← hnm] at HB HPs
          have HE := Lib.hid (fun W => etext_any nm (pn : Int) (pk : Int) W)
          have HU := Lib.hid (fun W => retext_any nm (pn : Int) (pk : Int) W (by have := HNs.out; omega))
          rw [HB.out] at HE HU
          clear hpk hpn hnm l1 l2 h4 hn HB
          go_wp2_with fail
          refine HPs.out.mono ?_
          rintro e w6 ⟨rfl, g6⟩
          have H6 := Lib.hid (And.intro (HR.out.1.gr0 g6) (HR.out.2.next0 g6))
          clear g6 HPs HR ht
          have H7 := Lib.hid (And.intro (Holds.new w6 #[.string nm, .int .i64 (pn : Int)] 44) (And.intro (H6.out.1.alloc (Obj.cells #[.string nm, .int .i64 (pn : Int)] 44)) (H6.out.2.alloc (Obj.cells #[.string nm, .int .i64 (pn : Int)] 44))))
          go_upto_region 11 with fail
          generalize (w6.alloc (Obj.cells #[.string nm, .int .i64 (pn : Int)] 44)) = w7 at *
          obtain ⟨xb, hxb⟩ : ∃ x, w6.heap.size = x := ⟨_, rfl⟩
          rw [hxb] at H7 ⊢
          clear hxb H6
          have c0 := H7.out.1.cell 0
          have c1 := H7.out.1.cell 1
          go_wp2_with fail
          refine (HE.out _).mono ?_
          rintro e w8 ⟨rfl, b8⟩
          have H8 := Lib.hid (And.intro (H7.out.1.gr0 (Gr.ofBelow (cs := []) b8)) (And.intro (H7.out.2.1.gr0 (Gr.ofBelow (cs := []) b8)) (H7.out.2.2.next0 (Gr.ofBelow (cs := []) b8))))
          clear b8 H7 c0 c1 HE
          have c0 := H8.out.1.cell 0
          have c1 := H8.out.1.cell 1
          go_wp2_with fail
          refine (HU.out _).mono ?_
          rintro e w9 ⟨rfl, b9⟩
          have H9 := Lib.hid (And.intro (H8.out.2.1.gr0 (Gr.ofBelow (cs := []) b9)) (H8.out.2.2.next0 (Gr.ofBelow (cs := []) b9)))
          clear b9 H8 c0 c1 HU
          go_wp2_with fail
          go_roundw
          case rel => exact ⟨k + 1, by omega, by go_num, H9.out.1, H9.out.2⟩
          case measure => simp [intOf]; omega
      · as_aux_lemma =>
          have hno : t.size < 4 ∨ nameP (t.extract 4 t.size).data.toList = false := by
            by_cases h4 : 4 ≤ t.size
            · right
              cases e : nameP (t.extract 4 t.size).data.toList with
              | false => rfl
              | true => exact absurd ⟨h4, e⟩ hp
            · left; omega
          have HPs := Lib.hid (parse17_no t wr (by have := HTS.out; omega) hno)
          have HNO := Lib.hid hno
          clear hp hno
          go_wp2_with fail
          refine HPs.out.mono ?_
          rintro e w6 ⟨rfl, g6⟩
          have H6 := Lib.hid (And.intro (HR.out.1.gr0 g6) (HR.out.2.next0 g6))
          clear g6 HPs HR ht
          have H7 := Lib.hid (And.intro (Holds.new w6 #[.string ⟨#[]⟩, .int .i64 0] 44) (And.intro (H6.out.1.alloc (Obj.cells #[.string ⟨#[]⟩, .int .i64 0] 44)) (H6.out.2.alloc (Obj.cells #[.string ⟨#[]⟩, .int .i64 0] 44))))
          go_upto_region 11 with fail
          generalize (w6.alloc (Obj.cells #[.string ⟨#[]⟩, .int .i64 0] 44)) = w7 at *
          obtain ⟨xb, hxb⟩ : ∃ x, w6.heap.size = x := ⟨_, rfl⟩
          rw [hxb] at H7 ⊢
          clear hxb H6
          have c0 := H7.out.1.cell 0
          have c1 := H7.out.1.cell 1
          by_cases h5 : (4 : Int) < (t.size : Int)
          · have h5n : 4 ≤ t.size := by omega
            have h5i : (4 : Int) ≤ (t.size : Int) := by omega
            have e : nmE (t.extract 4 t.size).data.toList = 18 := by
              rcases HNO.out with h | h
              · omega
              · unfold nmE; rw [h]; rfl
            have HRn := Lib.hid (fun W => rname_str (t.extract 4 t.size) (by rw [ByteArray.size_extract]; have := HTS.out; omega) W)
            rw [e] at HRn
            clear e
            go_wp2_with fail
            refine (HRn.out _).mono ?_
            rintro e w8 ⟨rfl, rfl⟩
            go_wp2_with fail
            go_roundw
            case rel => exact ⟨k + 1, by omega, by go_num, H7.out.2.1, H7.out.2.2⟩
            case measure => simp [intOf]; omega
          · go_wp2_with fail
            go_roundw
            case rel => exact ⟨k + 1, by omega, by go_num, H7.out.2.1, H7.out.2.2⟩
            case measure => simp [intOf]; omega
    · obtain rfl : k = 3 := by omega
      go_wp2_with fail
      go_ret
      exact ⟨rfl, HR.out.2⟩
theorem walk_DirNames (s : ByteArray) (n a : Int) (hs : s.size ≤ maxLen) (_x : s.size ≤ reachBytes) (_h1 : (Lit.int .i64 n).wf = true) (_h2 : (Lit.int .i64 a).wf = true) (w : World) : Calls Tryd.prog 4 #[.string s, .int .i64 n, .int .i64 a] w fun e w' => e = .returned (.bool true) ∧ Below w.heap.size w w' :=
  (dirnames_law s n a hs w).mono fun _ _ q => ⟨q.1, q.2.below0⟩
end Go.Proofs.YtefiapmgdjlnnaaDoor
