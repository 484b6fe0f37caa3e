/-
  The walk of CrcTells.
-/
import Derived.Test.YtlneehkkngnjhaaLawE
import Derived.Test.YtlneehkkngnjhaaCrcPure2
namespace Go.Proofs.Ytlneehkkngnjhaa
open Go.RowKit

/-- '[]byte(s)': new cells, the string's bytes among them. -/
theorem bytes_of (w : World) (s : ByteArray) : ∃ (W1 : World) (C : Nat), (convert 9 53 (.string s)).run Try.prog w = .ok (.slice (some ⟨w.heap.size, 0, none⟩) s.size C) W1 ∧
    (∀ j (h : j < s.size), W1.cell? ⟨w.heap.size, j, none⟩ = some (.int .u8 (s[j].toNat : Int))) ∧ (∀ j, j < s.size → W1.frozen? ⟨w.heap.size, j, none⟩ = false) ∧ Below w.heap.size w W1 ∧ w.heap.size < W1.heap.size := by
  refine ⟨_, _, run_bytes_of_string w _ _ 5 s Try.underlying9 Try.underlying53 Try.underlying5, ?_, ?_, ?_, ?_⟩
  · intro j h
    generalize grownCap w s.size 0 5 = c
    rw [cell_of_row _ w.heap.size j (bytesRow s c) 5 _ (heap_alloc_new w.drew _)]
    unfold bytesRow
    rw [Array.getElem?_append_left (by simpa using h)]
    have hd : j < s.data.size := h
    have e : (s.data.map fun b => Value.int .u8 (b.toNat : Int))[j]? = some (.int .u8 (s.data[j].toNat : Int)) := by
      rw [Array.getElem?_map, Array.getElem?_eq_getElem hd]; rfl
    exact e
  · intro j h
    generalize grownCap w s.size 0 5 = c
    have hj : j < (bytesRow s c).size := by
      unfold bytesRow
      have hd : j < s.data.size := h
      simp; omega
    have hb : (w.drew.alloc (.cells (bytesRow s c) 5 ((bytesRow s c).size, (bytesRow s c).size + 1))).heap[w.heap.size]? = some (.cells (bytesRow s c) 5 ((bytesRow s c).size, (bytesRow s c).size + 1)) := heap_alloc_new w.drew _
    simp only [World.frozen?, hb]
    simp
    omega
  · exact ((Below.refl _ _).drew).alloc (Nat.le_refl _) _
  · show w.heap.size < (w.heap.push _).size
    simp

theorem guard_int (x : Int) (w : World) (h : (Lit.int .u64 x).wf = true) :
    Calls Try.prog 33 #[.int .u64 x] w fun e w' => (∃ n : Nat, n < 18446744073709551616 ∧ e = .returned (.int .u64 (guardN n : Nat))) ∧ Below w.heap.size w w' := by
  obtain ⟨n, rfl, hn⟩ := nat_u64 h
  exact (guard_any n w hn).mono fun e w' ⟨he, hb⟩ => ⟨⟨n, hn, he⟩, hb⟩
theorem xor_bit (n : Nat) (hn : n < 18446744073709551616) (j : Nat) (hj : j < 64) : bits .xor .u64 (n : Int) (IntKind.u64.wrap (2 ^ j)) = ((n ^^^ 2 ^ j : Nat) : Int) := by
  have h2 : (2 : Nat) ^ j < 18446744073709551616 := by
    have : (2 : Nat) ^ j < 2 ^ 64 := Nat.pow_lt_pow_right (by omega) hj
    omega
  have e : IntKind.u64.wrap ((2 : Int) ^ j) = ((2 ^ j : Nat) : Int) := by
    have c : ((2 : Int) ^ j) = ((2 ^ j : Nat) : Int) := by push_cast; rfl
    rw [c]
    clear c
    generalize (2 : Nat) ^ j = t at *
    exact IntWalk.u64_in _ (by omega)
  rw [e, u64_xor_nat n _ hn h2]

theorem n32_inj {x y : BitVec 32} (h : n32 x = n32 y) : x = y := BitVec.eq_of_toNat_eq h
theorem u8_of {a : Int} (h : 0 ≤ a ∧ a ≤ 255) : ∃ b : UInt8, a = (b.toNat : Int) := by
  refine ⟨UInt8.ofNat a.toNat, ?_⟩
  have : (UInt8.ofNat a.toNat).toNat = a.toNat % 256 := by simp
  rw [this]; omega

/-- The bytes behind '[]byte(s)', one of them written, as a string again. -/
theorem back_conv (W1 : World) (g C : Nat) (S : ByteArray) (p : Nat) (x : UInt8) (hp : p < S.size)
    (hcells : ∀ j (h : j < S.size), W1.cell? ⟨g, j, none⟩ = some (.int .u8 (S[j].toNat : Int))) (q : Nat) :
    (convert 53 9 (.slice (some ⟨g, 0, none⟩) S.size C)).run Try.prog ((W1.setCell ⟨g, p, none⟩ (.int .u8 (x.toNat : Int))).drewN q) =
      .ok (.string ⟨(S.data.toList.set p x).toArray⟩) ((W1.setCell ⟨g, p, none⟩ (.int .u8 (x.toNat : Int))).drewN q) := by
  have h := run_convert_bytes_back (P := Try.prog) ((W1.setCell ⟨g, p, none⟩ (.int .u8 (x.toNat : Int))).drewN q) 53 9 5 ⟨g, 0, none⟩ C (S.data.toList.set p x) Try.underlying53 Try.underlying5 Try.underlying9 (fun i hi => by
    have hi' : i < S.size := by simpa using hi
    have ea : Addr.add ⟨g, 0, none⟩ i = ⟨g, i, none⟩ := by
      unfold Addr.add
      split
      · rename_i h0; subst h0; rfl
      · simp
    have ed : ((W1.setCell ⟨g, p, none⟩ (.int .u8 (x.toNat : Int))).drewN q).cell? (Addr.add ⟨g, 0, none⟩ i) = (W1.setCell ⟨g, p, none⟩ (.int .u8 (x.toNat : Int))).cell? ⟨g, i, none⟩ := by rw [ea]; rfl
    rw [ed]
    by_cases e : i = p
    · subst e
      rw [World.cell?_setCell_same _ _ _ (hcells i hi')]
      simp
    · rw [World.cell?_setCell_other _ _ _ _ (by simp [e]), hcells i hi', List.getElem_set_ne (by omega)]
      rfl)
  have el : (S.data.toList.set p x).length = S.size := by simp
  rw [el] at h
  exact h

set_option maxHeartbeats 1000000 in
theorem walk_CrcTells (a0 : ByteArray) (a1 a2 : Int) (w0 : a0.size ≤ maxLen) (x0 : a0.size ≤ reachBytes) (w1 : (Lit.int .u16 a1).wf = true) (w2 : (Lit.int .u8 a2).wf = true) (w : World) :
    Calls Try.prog 10 #[.string a0, .int .u16 a1, .int .u8 a2] w fun e w' => e = .returned (.bool true) ∧ Below w.heap.size w w' := by
  unfold maxLen at w0
  have h1 := bounds_u16 w1
  have h2 := bounds_u8 w2
  clear w1 w2
  obtain ⟨jn, hjn, hj⟩ : ∃ j : Nat, a2 % 64 = (j : Int) ∧ j < 64 := ⟨(a2 % 64).toNat, by omega, by omega⟩
  by_cases c0 : 2000 < (a0.size : Int)
  · skip
    go_enter Try.func10, Try.ntmps10
    go_wp2_with fail
    refine (guard_int _ _ (wf_bits _ _ _ _)).mono ?_
    rintro e v1 ⟨⟨n, hn, rfl⟩, hb1⟩
    have hg := guardN_lt n hn
    have htell := guard_tells n hn jn hj
    have hxor := xor_bit (guardN n) hg jn hj
    have hlt : guardN n ^^^ 2 ^ jn < 18446744073709551616 := Nat.xor_lt_two_pow (n := 64) hg (Nat.pow_lt_pow_right (by omega) hj)
    generalize guardN n ^^^ 2 ^ jn = W at *
    generalize guardN n = G at *
    go_wp2_with fail
    refine (guarded_no W _ hlt htell).mono ?_
    rintro e v2 ⟨rfl, hb2⟩
    go_wp2_with fail
    refine (wakes2_any _).mono ?_
    rintro e v3 ⟨rfl, hb3⟩
    have hb : Below w.heap.size w v3 := (hb1.trans (hb2.mono hb1.size)).trans (hb3.mono (Nat.le_trans hb1.size hb2.size))
    clear hb1 hb2 hb3
    have hS2 : (a0.extract 0 2000).size ≤ 2000 := by rw [ByteArray.size_extract]; omega
    have hS3 : (a0.extract 0 2000).size = min 2000 a0.size := by rw [ByteArray.size_extract]; omega
    generalize a0.extract 0 2000 = S at *
    by_cases hz : S.size = 0
    · have hL : ((S.size : Int) == 0) = true := by simp only [beq_iff_eq]; omega
      have HZ := Lib.hid hz
      have HS3 := Lib.hid hS3
      clear hz hS3
      go_wp2_with fail
      all_goals
        go_ret
        exact ⟨rfl, hb⟩
    · have hL : ((S.size : Int) == 0) = false := by simp only [beq_eq_false_iff_ne, ne_eq]; omega
      by_cases ha : a2 = 0
      · have hA : (a2 == 0) = true := by simp [ha]
        have HA := Lib.hid ha
        clear ha
        go_wp2_with fail
        all_goals
          go_ret
          exact ⟨rfl, hb⟩
      · have hA : (a2 == 0) = false := by simp [ha]
        have hpos : 0 < S.size := by omega
        obtain ⟨W1, C, hrun, hcells, hfro, hbel, hsz⟩ := bytes_of v3 S
        obtain ⟨b, rfl⟩ : ∃ b : UInt8, a2 = (b.toNat : Int) := u8_of h2
        have hb0 : b ≠ 0 := by
          intro h0
          subst h0
          exact ha rfl
        obtain ⟨p, hp, hpl⟩ : ∃ p : Nat, a1 % (S.size : Int) = (p : Int) ∧ p < S.size :=
          ⟨(a1 % (S.size : Int)).toNat, by have := Int.emod_nonneg a1 (show (S.size : Int) ≠ 0 by omega); omega, by have := Int.emod_lt_of_pos a1 (show (0 : Int) < S.size by omega); have := Int.emod_nonneg a1 (show (S.size : Int) ≠ 0 by omega); omega⟩
        have hc := hcells p hpl
        have hf := hfro p hpl
        have hx : bits .xor .u8 (S[p].toNat : Int) (b.toNat : Int) = ((S[p] ^^^ b).toNat : Int) := by
          rw [u8_xor_nat _ _ (S[p].toNat_lt) (b.toNat_lt)]; simp
        have ht0 := set_tells S.data.toList p (by simpa using hpl) b hb0
        have ee : S.data.toList[p]'(by simpa using hpl) = S[p] := rfl
        rw [ee] at ht0
        generalize S[p] ^^^ b = x at *
        have hback := back_conv W1 v3.heap.size C S p x hpl hcells
        have hl : p < S.data.toList.length := by simpa using hpl
        have ht := ht0
        clear ht0
        have hl2 : (S.data.toList.set p x).length = S.size := by simp
        generalize S.data.toList.set p x = l2 at *
        have hs2 : (ByteArray.mk l2.toArray).size ≤ maxLen := by
          have : (ByteArray.mk l2.toArray).size = S.size := by show l2.toArray.size = _; rw [List.size_toArray]; exact hl2
          unfold maxLen; omega
        have hs1 : S.size ≤ maxLen := by unfold maxLen; omega
        have e2 : (ByteArray.mk l2.toArray).data.toList = l2 := by simp
        rw [← e2] at ht
        clear e2 hl2 hl ee
        generalize ByteArray.mk l2.toArray = S2 at *
        have hn16 : ((n16 (sum16 S.data.toList) : Int) != (n16 (sum16 S2.data.toList) : Int)) = true := by
          rw [bne_iff_ne]; intro e; exact ht.1 (n16_inj (by omega))
        have hn32 : ((n32 (sum32 S.data.toList) : Int) != (n32 (sum32 S2.data.toList) : Int)) = true := by
          rw [bne_iff_ne]; intro e; exact ht.2 (n32_inj (by omega))
        clear hS3
        have hb' := (hb.trans (hbel.mono hb.size)).setCell (p := ⟨v3.heap.size, p, none⟩) hb.size (.int .u8 (x.toNat : Int))
        have HB := Lib.hid hb'
        clear hcells hfro ht hb' hbel hsz hb ha hz hb0
        go_wp2_with fail
        go_quiet ((first
          | (go_at_call 27; exact Calls.quiet_of_same (calls_flip (sum16_any _ _ (by assumption))))
          | (go_at_call 29; exact Calls.quiet_of_same (calls_flip (sum32_any _ _ (by assumption))))))
        go_wp2
        go_ret
        exact ⟨rfl, Below.drewN_ HB.out _⟩
  · skip
    go_enter Try.func10, Try.ntmps10
    go_wp2_with fail
    refine (guard_int _ _ (wf_bits _ _ _ _)).mono ?_
    rintro e v1 ⟨⟨n, hn, rfl⟩, hb1⟩
    have hg := guardN_lt n hn
    have htell := guard_tells n hn jn hj
    have hxor := xor_bit (guardN n) hg jn hj
    have hlt : guardN n ^^^ 2 ^ jn < 18446744073709551616 := Nat.xor_lt_two_pow (n := 64) hg (Nat.pow_lt_pow_right (by omega) hj)
    generalize guardN n ^^^ 2 ^ jn = W at *
    generalize guardN n = G at *
    go_wp2_with fail
    refine (guarded_no W _ hlt htell).mono ?_
    rintro e v2 ⟨rfl, hb2⟩
    go_wp2_with fail
    refine (wakes2_any _).mono ?_
    rintro e v3 ⟨rfl, hb3⟩
    have hb : Below w.heap.size w v3 := (hb1.trans (hb2.mono hb1.size)).trans (hb3.mono (Nat.le_trans hb1.size hb2.size))
    clear hb1 hb2 hb3
    have hS2 : a0.size ≤ 2000 := by omega
    have hS3 : True := trivial
    by_cases hz : a0.size = 0
    · have hL : ((a0.size : Int) == 0) = true := by simp only [beq_iff_eq]; omega
      have HZ := Lib.hid hz
      have HS3 := Lib.hid hS3
      clear hz hS3
      go_wp2_with fail
      all_goals
        go_ret
        exact ⟨rfl, hb⟩
    · have hL : ((a0.size : Int) == 0) = false := by simp only [beq_eq_false_iff_ne, ne_eq]; omega
      by_cases ha : a2 = 0
      · have hA : (a2 == 0) = true := by simp [ha]
        have HA := Lib.hid ha
        clear ha
        go_wp2_with fail
        all_goals
          go_ret
          exact ⟨rfl, hb⟩
      · have hA : (a2 == 0) = false := by simp [ha]
        have hpos : 0 < a0.size := by omega
        obtain ⟨W1, C, hrun, hcells, hfro, hbel, hsz⟩ := bytes_of v3 a0
        obtain ⟨b, rfl⟩ : ∃ b : UInt8, a2 = (b.toNat : Int) := u8_of h2
        have hb0 : b ≠ 0 := by
          intro h0
          subst h0
          exact ha rfl
        obtain ⟨p, hp, hpl⟩ : ∃ p : Nat, a1 % (a0.size : Int) = (p : Int) ∧ p < a0.size :=
          ⟨(a1 % (a0.size : Int)).toNat, by have := Int.emod_nonneg a1 (show (a0.size : Int) ≠ 0 by omega); omega, by have := Int.emod_lt_of_pos a1 (show (0 : Int) < a0.size by omega); have := Int.emod_nonneg a1 (show (a0.size : Int) ≠ 0 by omega); omega⟩
        have hc := hcells p hpl
        have hf := hfro p hpl
        have hx : bits .xor .u8 (a0[p].toNat : Int) (b.toNat : Int) = ((a0[p] ^^^ b).toNat : Int) := by
          rw [u8_xor_nat _ _ (a0[p].toNat_lt) (b.toNat_lt)]; simp
        have ht0 := set_tells a0.data.toList p (by simpa using hpl) b hb0
        have ee : a0.data.toList[p]'(by simpa using hpl) = a0[p] := rfl
        rw [ee] at ht0
        generalize a0[p] ^^^ b = x at *
        have hback := back_conv W1 v3.heap.size C a0 p x hpl hcells
        have hl : p < a0.data.toList.length := by simpa using hpl
        have ht := ht0
        clear ht0
        have hl2 : (a0.data.toList.set p x).length = a0.size := by simp
        generalize a0.data.toList.set p x = l2 at *
        have hs2 : (ByteArray.mk l2.toArray).size ≤ maxLen := by
          have : (ByteArray.mk l2.toArray).size = a0.size := by show l2.toArray.size = _; rw [List.size_toArray]; exact hl2
          unfold maxLen; omega
        have hs1 : a0.size ≤ maxLen := by unfold maxLen; omega
        have e2 : (ByteArray.mk l2.toArray).data.toList = l2 := by simp
        rw [← e2] at ht
        clear e2 hl2 hl ee
        generalize ByteArray.mk l2.toArray = S2 at *
        have hn16 : ((n16 (sum16 a0.data.toList) : Int) != (n16 (sum16 S2.data.toList) : Int)) = true := by
          rw [bne_iff_ne]; intro e; exact ht.1 (n16_inj (by omega))
        have hn32 : ((n32 (sum32 a0.data.toList) : Int) != (n32 (sum32 S2.data.toList) : Int)) = true := by
          rw [bne_iff_ne]; intro e; exact ht.2 (n32_inj (by omega))
        clear hS3
        have hb' := (hb.trans (hbel.mono hb.size)).setCell (p := ⟨v3.heap.size, p, none⟩) hb.size (.int .u8 (x.toNat : Int))
        have HB := Lib.hid hb'
        clear hcells hfro ht hb' hbel hsz hb ha hz hb0
        go_wp2_with fail
        go_quiet ((first
          | (go_at_call 27; exact Calls.quiet_of_same (calls_flip (sum16_any _ _ (by assumption))))
          | (go_at_call 29; exact Calls.quiet_of_same (calls_flip (sum32_any _ _ (by assumption))))))
        go_wp2
        go_ret
        exact ⟨rfl, Below.drewN_ HB.out _⟩

end Go.Proofs.Ytlneehkkngnjhaa
