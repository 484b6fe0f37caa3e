/-
  PkAu: Sum2, LawE, Sum3.
-/
import Derived.Test.YtjbhallhmnahbaaGreatPkAt
import Derived.Test.YtjbhallhmnahbaaGreatPkAi
import Derived.Test.YtjbhallhmnahbaaGreatPkAl
import Derived.Lib.IndexBytes

set_option linter.unusedVariables false

/-
  The reference's bits and number.
-/
namespace Go.Proofs.YtjbhallhmnahbaaGreat
open Go.RowKit

def numF (f : Nat → Bool) : Nat → Nat
  | 0 => 0
  | n + 1 => 2 * numF f n + (f n).toNat
theorem numF_lt (f : Nat → Bool) (n : Nat) : numF f n < 2 ^ n := by
  induction n with
  | zero => simp [numF]
  | succ n ih => unfold numF; have := bit_le (f n); rw [Nat.pow_succ]; omega
theorem numF_msb {w : Nat} (x : BitVec w) (f : Nat → Bool) (h : ∀ j, j < w → f j = x.getMsbD j) (n : Nat) (hn : n ≤ w) : numF f n = x.toNat / 2 ^ (w - n) := by
  induction n with
  | zero => rw [Nat.sub_zero, Nat.div_eq_of_lt x.isLt]; rfl
  | succ n ih =>
    unfold numF
    rw [ih (by omega), h n (by omega), BitVec.getMsbD]
    have e : w - n = (w - (n + 1)) + 1 := by omega
    rw [e, Nat.pow_succ, ← Nat.div_div_eq_div_mul]
    have hb : x.getLsbD (w - 1 - n) = x.toNat.testBit (w - (n + 1)) := by
      rw [BitVec.getLsbD, show w - 1 - n = w - (n + 1) by omega]
    rw [hb, decide_eq_true (show n < w by omega), Bool.true_and, Nat.testBit_eq_decide_div_mod_eq]
    generalize x.toNat / 2 ^ (w - (n + 1)) = q
    by_cases c : q % 2 = 1
    · simp [c]; omega
    · simp [c]; omega
theorem numF_all {w : Nat} (x : BitVec w) (f : Nat → Bool) (h : ∀ j, j < w → f j = x.getMsbD j) : numF f w = x.toNat := by
  rw [numF_msb x f h w (Nat.le_refl _)]; simp
theorem field1 (u : UInt8) (a : Nat) (h : a ≤ 7) : fieldN u.toNat (a : Int) 1 = (u.toNat.testBit a).toNat := by
  have hok : okF (a : Int) 1 := by unfold okF; omega
  have h1 := fieldN_testBit u.toNat a 1 hok 0
  have h2 := fieldN_lt u.toNat a 1 hok
  simp only [Int.toNat_one, Int.toNat_natCast, Nat.add_zero] at h1 h2
  rw [Nat.testBit_zero] at h1
  generalize fieldN u.toNat (a : Int) 1 = q at *
  simp at h1
  rw [← h1]
  have : q = 0 ∨ q = 1 := by omega
  rcases this with rfl | rfl <;> rfl

set_option maxHeartbeats 1000000 in
theorem rnumber (n g c : Nat) (f : Nat → Bool) (xs : List Value) (w : World) (n2 : n ≤ 63) (hown : w.ownsRow 0 3 1 (.slice (some ⟨g, 0, none⟩) n c) n xs) (hreg : RegIs xs n f) :
    Calls Tryz.prog 158 #[.slice (some ⟨g, 0, none⟩) n c] w fun e w' => e = .returned (.int .u64 (numF f n : Nat)) ∧ w = w' := by
  have HO := Lib.hid (And.intro hown hreg)
  clear hown hreg
  go_enter Tryz.func158, Tryz.ntmps158
  go_wp2
  go_loop [3, 4] (fun v i => ∃ k : Nat, k ≤ n ∧ i = .int .i64 k ∧ v = .int .u64 (numF f k : Nat)) (fun _ i => n - (intOf i).toNat)
  case atStart => exact ⟨0, by omega, rfl, rfl⟩
  case round =>
    obtain ⟨k, hk, rfl, rfl⟩ := hrel
    by_cases hlt : k < n
    · have hc : w.cell? ⟨g, k, none⟩ = some (.int .i64 ((f k).toNat : Int)) := by
        rw [HO.out.1.cellAt k (by omega)]; exact HO.out.2.2 k hlt
      have h1 := bit_le (f k)
      have h2 := numF_lt f k
      have h3 : (2 : Nat) ^ k ≤ 2 ^ 62 := Nat.pow_le_pow_right (by omega) (by omega)
      have hs : numF f (k + 1) = 2 * numF f k + (f k).toNat := rfl
      have HS := Lib.hid hs
      clear hs
      generalize numF f k = a at *
      have h4 : a < 4611686018427387904 := by omega
      clear h2 h3
      go_wp2
      go_round
      case rel => exact ⟨k + 1, by omega, by go_num, by rw [HS.out]; push_cast; rfl⟩
      case measure => simp [intOf]; omega
    · obtain rfl : k = n := by omega
      go_wp2
      go_ret
      exact ⟨rfl, rfl⟩

def bitsD (low : Bool) (u : UInt8) : List Bool := (List.range 8).map fun k => u.toNat.testBit (if low = true then k else 7 - k)
theorem bitsD_length (low : Bool) (u : UInt8) : (bitsD low u).length = 8 := by simp [bitsD]
theorem bitsD_at (low : Bool) (u : UInt8) (k : Nat) (h : k < 8) : (bitsD low u)[k]? = some (u.toNat.testBit (if low = true then k else 7 - k)) := by
  simp [bitsD, h]
def preB (low : Bool) (l : List UInt8) : List Bool := l.flatMap (bitsD low)
theorem preB_length (low : Bool) (l : List UInt8) : (preB low l).length = 8 * l.length := by
  induction l with
  | nil => rfl
  | cons u l ih => unfold preB at ih ⊢; rw [List.flatMap_cons, List.length_append, bitsD_length, ih, List.length_cons]; omega
theorem preB_next (low : Bool) (l : List UInt8) (i : Nat) (h : i < l.length) : preB low (l.take (i + 1)) = preB low (l.take i) ++ bitsD low l[i] := by
  unfold preB
  rw [List.take_add_one, List.getElem?_eq_getElem h, List.flatMap_append]
  congr 1
set_option maxRecDepth 100000 in
set_option maxHeartbeats 2000000 in
theorem rbits (s : ByteArray) (low : Bool) (w : World) (hs : s.size ≤ 2000) :
    Calls Tryz.prog 156 #[.string s, .bool low] w fun e w' => ∃ v : Value, e = .returned v ∧ w'.ownsRow w.heap.size 3 1 v (8 * s.size) ((preB low s.data.toList).map bv) ∧ Below w.heap.size w w' := by
  obtain ⟨i0, hi, hz0, hz1, hz2⟩ := info_parts infoInt
  have hsl : s.data.toList.length = s.size := by rw [Array.length_toList]; rfl
  have HSL := Lib.hid hsl
  clear hsl
  go_enter Tryz.func156, Tryz.ntmps156
  go_wp2
  go_loopw [5, 6] (fun v i wr => ∃ k : Nat, k ≤ s.size ∧ i = .int .i64 k ∧ wr.ownsRow w.heap.size 3 1 v (8 * k) ((preB low (s.data.toList.take k)).map bv) ∧ Below w.heap.size w wr) (fun _ i _ => s.size - (intOf i).toNat)
  case atStart => exact ⟨0, by omega, rfl, World.ownsRow_nil _ _ _ _, Below.refl _ _⟩
  case round =>
    obtain ⟨i, hk, rfl, hown, B1⟩ := hrel
    by_cases hlt : i < s.size
    · obtain ⟨u, hu⟩ : ∃ u, s[i] = u := ⟨_, rfl⟩
      have hnx : preB low (s.data.toList.take (i + 1)) = preB low (s.data.toList.take i) ++ bitsD low u := by
        rw [preB_next low _ i (by rw [HSL.out]; exact hlt), ← hu]; rfl
      have HNX := Lib.hid hnx
      clear hnx
      have hpl : (preB low (s.data.toList.take i)).length = 8 * i := by rw [preB_length, List.length_take, HSL.out]; omega
      generalize preB low (s.data.toList.take i) = P at *
      go_wp2_with fail
      go_loopw [5, 7] (fun v j wr => ∃ k : Nat, k ≤ 8 ∧ j = .int .i64 k ∧ wr.ownsRow w.heap.size 3 1 v (8 * i + k) ((P ++ (bitsD low u).take k).map bv) ∧ Below w.heap.size w wr) (fun _ j _ => 8 - (intOf j).toNat)
      case atStart => exact ⟨0, by omega, rfl, by simpa using hown, B1⟩
      case round =>
        clear hown B1
        obtain ⟨k, hk8, rfl, hown, B1⟩ := hrel
        by_cases hlt2 : k < 8
        · obtain ⟨a, ha, ha7, hae⟩ : ∃ a : Nat, (a : Int) = (if low = true then (k : Int) else 7 - (k : Int)) ∧ a ≤ 7 ∧ a = (if low = true then k else 7 - k) := ⟨if low = true then k else 7 - k, by split <;> omega, by split <;> omega, rfl⟩
          have hbit := bitsD_at low u k hlt2
          rw [← hae] at hbit
          have hnx2 : P ++ (bitsD low u).take (k + 1) = (P ++ (bitsD low u).take k) ++ [u.toNat.testBit a] := by rw [List.take_add_one, hbit]; simp
          have hf1 := field1 u a ha7
          have hq := bit_le (u.toNat.testBit a)
          have hPl : (P ++ (bitsD low u).take k).length = 8 * i + k := by rw [List.length_append, List.length_take, bitsD_length, hpl]; omega
          generalize u.toNat.testBit a = p at *
          have HN2 := Lib.hid hnx2
          generalize P ++ (bitsD low u).take k = R at *
          have HF := Lib.hid hf1
          clear hnx2 hf1 hbit hae
          cases hlow : low
          · rw [hlow] at ha
            simp only [Bool.false_eq_true, if_false] at ha
            rw [hlow] at HN2
            subst hlow
            have hfl : fieldN u.toNat (7 - (k : Int)) 1 = p.toNat := by rw [← HF.out]; congr 1; omega
            have HFL := Lib.hid hfl
            clear hfl
            have hw0 : IntKind.u64.wrap (u.toNat : Int) = (u.toNat : Int) := by rw [IntKind.wrap_u64]; have := u.toNat_lt; omega
            go_wp2_with fail
            clear hw0
            have hw1 : IntKind.i64.wrap (p.toNat : Int) = (p.toNat : Int) := IntWalk.i64_in _ (by omega)
            refine (rfield_any u.toNat (7 - (k : Int)) 1 _ (by have := u.toNat_lt; omega)).mono ?_
            rintro e w2 ⟨rfl, rfl⟩
            rw [HFL.out]
            go_wp2_with (first
              | (at_builtin; refine wpList_append_own _ rfl _ _ 61 rfl w.heap.size 3 i0 (.int .i64 0) 1 8 Tryz.underlying61 hi hz0 hz1 hz2 rfl (by decide) _ _ _ rfl (hown.alloc _) ⟨wr.heap.size, 0, none⟩ 1 1 [bv p] rfl rfl ?c1 ?c2 ?c3 ?c4 ?c5 ?_))
            case c1 =>
              intro a u ha
              match a, ha with
              | 0, ha => simp at ha; subst ha; simp [Addr.add, bv]
            case c2 => intro u hu; simp at hu; subst hu; rfl
            case c3 => unfold maxLen; omega
            case c4 => omega
            case c5 => have := B1.size; simp; omega
            intro v' w3 hown3 hgrow3 _
            have RR := Lib.hid (And.intro (show w3.ownsRow w.heap.size 3 1 v' (8 * i + (k + 1)) ((P ++ List.take (k + 1) (bitsD false u)).map bv) by rw [HN2.out, List.map_append, ← Nat.add_assoc]; exact hown3)
              ((B1.alloc B1.size _).grown hgrow3 (by have := B1.size; simp; omega) (fun g hg => (hown.lt g hg).1)))
            clear hown3 hgrow3 hown B1
            go_wp2
            go_roundw
            case rel => exact ⟨k + 1, by omega, by go_num, RR.out.1, RR.out.2⟩
            case measure => simp [intOf]; omega
          · rw [hlow] at ha
            simp only [if_true] at ha
            rw [hlow] at HN2
            subst hlow
            have hfl : fieldN u.toNat (k : Int) 1 = p.toNat := by rw [← HF.out]; congr 1; omega
            have HFL := Lib.hid hfl
            clear hfl
            have hw0 : IntKind.u64.wrap (u.toNat : Int) = (u.toNat : Int) := by rw [IntKind.wrap_u64]; have := u.toNat_lt; omega
            go_wp2_with fail
            clear hw0
            have hw1 : IntKind.i64.wrap (p.toNat : Int) = (p.toNat : Int) := IntWalk.i64_in _ (by omega)
            refine (rfield_any u.toNat (k : Int) 1 _ (by have := u.toNat_lt; omega)).mono ?_
            rintro e w2 ⟨rfl, rfl⟩
            rw [HFL.out]
            go_wp2_with (first
              | (at_builtin; refine wpList_append_own _ rfl _ _ 61 rfl w.heap.size 3 i0 (.int .i64 0) 1 8 Tryz.underlying61 hi hz0 hz1 hz2 rfl (by decide) _ _ _ rfl (hown.alloc _) ⟨wr.heap.size, 0, none⟩ 1 1 [bv p] rfl rfl ?c1 ?c2 ?c3 ?c4 ?c5 ?_))
            case c1 =>
              intro a u ha
              match a, ha with
              | 0, ha => simp at ha; subst ha; simp [Addr.add, bv]
            case c2 => intro u hu; simp at hu; subst hu; rfl
            case c3 => unfold maxLen; omega
            case c4 => omega
            case c5 => have := B1.size; simp; omega
            intro v' w3 hown3 hgrow3 _
            have RR := Lib.hid (And.intro (show w3.ownsRow w.heap.size 3 1 v' (8 * i + (k + 1)) ((P ++ List.take (k + 1) (bitsD true u)).map bv) by rw [HN2.out, List.map_append, ← Nat.add_assoc]; exact hown3)
              ((B1.alloc B1.size _).grown hgrow3 (by have := B1.size; simp; omega) (fun g hg => (hown.lt g hg).1)))
            clear hown3 hgrow3 hown B1
            go_wp2
            go_roundw
            case rel => exact ⟨k + 1, by omega, by go_num, RR.out.1, RR.out.2⟩
            case measure => simp [intOf]; omega
        · obtain rfl : k = 8 := by omega
          have RR := Lib.hid (And.intro hown B1)
          clear hown B1
          go_wp2
          go_roundw
          case rel => exact ⟨i + 1, by omega, by go_num, by rw [HNX.out]; have := RR.out.1; rwa [List.take_of_length_le (by rw [bitsD_length]; omega)] at this, RR.out.2⟩
          case measure => simp [intOf]; omega
    · obtain rfl : i = s.size := by omega
      rw [List.take_of_length_le (by rw [HSL.out]; omega)] at hown
      have RR := Lib.hid (And.intro hown B1)
      clear hown B1
      go_wp2
      go_ret
      exact ⟨_, rfl, RR.out.1, RR.out.2⟩

end Go.Proofs.YtjbhallhmnahbaaGreat

/-
  The walks of layer 2's statements: checks of mixed texts.
-/
namespace Go.Proofs.YtjbhallhmnahbaaGreat
open Go.RowKit

theorem mix3_length : ∀ (l m n : List UInt8), l.length = m.length → m.length = n.length → (mix3 l m n).length = l.length
  | [], [], [], _, _ => rfl
  | a :: l, b :: m, c :: n, h, h' => by simp [mix3, mix3_length l m n (by simpa using h) (by simpa using h')]
  | [], _ :: _, _, h, _ => by simp at h
  | _ :: _, [], _, h, _ => by simp at h
  | [], [], _ :: _, _, h => by simp at h
  | _ :: _, _ :: _, [], _, h => by simp at h
theorem mix3_get : ∀ (l m n : List UInt8) (j : Nat) (h1 : j < l.length) (h2 : j < m.length) (h3 : j < n.length), (mix3 l m n)[j]? = some (l[j] ^^^ m[j] ^^^ n[j])
  | a :: l, b :: m, c :: n, 0, _, _, _ => rfl
  | a :: l, b :: m, c :: n, j + 1, h1, h2, h3 => by
    simp only [mix3, List.getElem?_cons_succ, List.getElem_cons_succ]
    exact mix3_get l m n j _ _ _
  | [], _, _, _, h, _, _ => by simp at h
  | _ :: _, [], _, _, _, h, _ => by simp at h
  | _ :: _, _ :: _, [], _, _, _, h => by simp at h

def DoneMix (a b c : ByteArray) (k : Nat) (xs : List Value) : Prop :=
  ∀ j (h0 : j < a.size) (h1 : j < b.size) (h2 : j < c.size), j < k → xs[j]? = some (byteV (a[j] ^^^ b[j] ^^^ c[j]))
theorem DoneMix.all {a b c : ByteArray} {n : Nat} {xs : List Value} (h : DoneMix a b c n xs) (h0 : n ≤ a.size) (h1 : n ≤ b.size) (h2 : n ≤ c.size) (hx : xs.length = n) :
    xs = (mix3 (a.extract 0 n).data.toList (b.extract 0 n).data.toList (c.extract 0 n).data.toList).map byteV := by
  have l0 : (a.extract 0 n).data.toList.length = n := by rw [← Lib.size_eq, ByteArray.size_extract]; omega
  have l1 : (b.extract 0 n).data.toList.length = n := by rw [← Lib.size_eq, ByteArray.size_extract]; omega
  have l2 : (c.extract 0 n).data.toList.length = n := by rw [← Lib.size_eq, ByteArray.size_extract]; omega
  apply List.ext_getElem?
  intro j
  by_cases hj : j < n
  · rw [h j (by omega) (by omega) (by omega) hj, List.getElem?_map, mix3_get _ _ _ j (by omega) (by omega) (by omega)]
    have e : ∀ (s : ByteArray) (hs : n ≤ s.size) (hl : j < (s.extract 0 n).data.toList.length), (s.extract 0 n).data.toList[j] = s[j] := by
      intro s hs hl
      have : (s.extract 0 n).data.toList[j]? = s.data.toList[j]? := by
        rw [Lib.extract_data, List.drop_zero, List.getElem?_take_of_lt (by omega)]
      rw [List.getElem?_eq_getElem hl, List.getElem?_eq_getElem (by simpa using (show j < s.size by omega))] at this
      exact Option.some.inj this
    simp only [Option.map_some]
    rw [e a h0, e b h1, e c h2]
  · rw [List.getElem?_eq_none (by omega), List.getElem?_eq_none (by rw [List.length_map, mix3_length _ _ _ (by omega) (by omega)]; omega)]

end Go.Proofs.YtjbhallhmnahbaaGreat

/-
  The reference's Sum16 and Guard.
-/
namespace Go.Proofs.YtjbhallhmnahbaaGreat
open Go.RowKit

theorem size_is3 (l : List UInt8) : (ByteArray.mk l.toArray).size = l.length := by simp [ByteArray.size]
theorem own_zero {w : World} {base : Nat} {e : TypeId} {size n : Nat} {v : Value} {xs : List Value} (h : w.ownsRow base e size v n xs) : w.ownsRow 0 e size v n xs := by
  refine ⟨h.1, ?_⟩
  rcases h.2 with hn | ⟨g, cap, cur, hv, hg, rest⟩
  · exact .inl hn
  · exact .inr ⟨g, cap, cur, hv, Nat.zero_le _, rest⟩
theorem own_slice {w : World} {base : Nat} {e : TypeId} {size n : Nat} {v : Value} {xs : List Value} (h : w.ownsRow base e size v n xs) (hn : n ≠ 0) : ∃ g cap, v = .slice (some ⟨g, 0, none⟩) n cap ∧ base ≤ g := by
  rcases h.2 with ⟨_, h0⟩ | ⟨g, cap, cur, hv, hg, rest⟩
  · exact absurd h0 hn
  · exact ⟨g, cap, hv, hg⟩
theorem own_new (w : World) (e : TypeId) (cs : Array Value) (h : cs.size ≤ maxLen) : (w.alloc (.cells cs e)).ownsRow 0 e 1 (.slice (some ⟨w.heap.size, 0, none⟩) cs.size cs.size) cs.size cs.toList := by
  refine ⟨by simp, .inr ⟨w.heap.size, cs.size, cs, rfl, Nat.zero_le _, heap_alloc_new w _, Nat.le_refl _, h, by simp, ?_⟩⟩
  rw [Nat.mul_one, ← Array.length_toList, List.take_length]

theorem reg_step {w : Nat} (p x : BitVec w) (f : Nat → Bool) (b : Bool) (hw : 0 < w) (h : ∀ j, j < w → f j = x.getMsbD j) : ∀ j, j < w → stF w (fun j => p.getMsbD j) f b j = (st p x b).getMsbD j := by
  intro j hj
  have hm : x.msb = f 0 := by rw [h 0 hw, BitVec.msb]
  have hs : shF w f j = (x <<< 1).getMsbD j := by
    unfold shF
    rw [BitVec.getMsbD_shiftLeft]
    by_cases c : j + 1 < w
    · rw [if_pos c, h _ c]
    · rw [if_neg c, BitVec.getMsbD]
      simp; intro hc; omega
  unfold stF st
  rw [BitVec.getMsbD_xor, hs, hm]
  by_cases c : (f 0 ^^ b) = true
  · rw [if_pos c, if_pos c]
  · rw [if_neg c, if_neg c]; simp
theorem reg_fold {w : Nat} (p : BitVec w) (hw : 0 < w) (l : List Bool) : ∀ (x : BitVec w) (f : Nat → Bool), (∀ j, j < w → f j = x.getMsbD j) → ∀ j, j < w → (l.foldl (stF w (fun j => p.getMsbD j)) f) j = (l.foldl (st p) x).getMsbD j := by
  induction l with
  | nil => intro x f h; exact h
  | cons b l ih =>
    intro x f h
    simp only [List.foldl_cons]
    exact ih _ _ (reg_step p x f b hw h)
theorem bitsD_hi (u : UInt8) : bitsD false u = bitsHi u := by
  unfold bitsD bitsHi
  simp
theorem ones16 : ∀ j, j < 16 → (fun _ : Nat => true) j = (0xFFFF#16).getMsbD j := by decide
def turns16 : List Value := [.int .i64 0, .int .i64 0, .int .i64 0, .int .i64 1, .int .i64 0, .int .i64 0, .int .i64 0, .int .i64 0, .int .i64 0, .int .i64 0, .int .i64 1, .int .i64 0, .int .i64 0, .int .i64 0, .int .i64 0, .int .i64 1]
theorem bits16 : ∀ j : Fin 16, (List.map (fun b : Bool => (b.toNat : Int)) [false, false, false, true, false, false, false, false, false, false, true, false, false, false, false, true])[j]? = some (((0x1021#16).getMsbD j).toNat : Int) := by decide
theorem turns_reg : RegIs turns16 16 (fun j => (0x1021#16).getMsbD j) := by
  refine ⟨rfl, fun j hj => ?_⟩
  have h := bits16 ⟨j, hj⟩
  have e : turns16 = (List.map (fun b : Bool => (b.toNat : Int)) [false, false, false, true, false, false, false, false, false, false, true, false, false, false, false, true]).map (Value.int .i64) := rfl
  rw [e, List.getElem?_map]
  simp only [Fin.getElem?_fin] at h
  rw [h]; rfl
theorem sum16_num (l : List UInt8) (F : Nat → Bool) (h : F = (preB false l).foldl (stF 16 (fun j => (0x1021#16).getMsbD j)) (fun _ => true)) : numF F 16 = n16 (sum16 l) := by
  have hp : preB false l = l.flatMap bitsHi := by
    unfold preB
    rw [show bitsD false = bitsHi from funext bitsD_hi]
  have hf := reg_fold (0x1021#16) (by omega) (l.flatMap bitsHi) 0xFFFF#16 (fun _ => true) ones16
  rw [sum16_bits] at hf
  subst h
  rw [hp]
  exact numF_all (c16 l 0xFFFF#16) _ hf

set_option maxRecDepth 100000 in
set_option maxHeartbeats 1000000 in
theorem rsum16 (s : ByteArray) (w : World) (h1 : 1 ≤ s.size) (h2 : s.size ≤ 2000) :
    Calls Tryz.prog 197 #[.string s] w fun e w' => e = .returned (.int .u64 (n16 (sum16 s.data.toList) : Nat)) ∧ Below w.heap.size w w' := by
  go_enter Tryz.func197, Tryz.ntmps197
  go_wp2_with fail
  have T1 : (w.alloc (Obj.cells #[Value.int IntKind.i64 0, Value.int IntKind.i64 0, Value.int IntKind.i64 0, Value.int IntKind.i64 1, Value.int IntKind.i64 0, Value.int IntKind.i64 0, Value.int IntKind.i64 0, Value.int IntKind.i64 0, Value.int IntKind.i64 0, Value.int IntKind.i64 0, Value.int IntKind.i64 1, Value.int IntKind.i64 0, Value.int IntKind.i64 0, Value.int IntKind.i64 0, Value.int IntKind.i64 0, Value.int IntKind.i64 1] 3)).ownsRow 0 3 1 (.slice (some ⟨w.heap.size, 0, none⟩) 16 16) 16 turns16 := own_new w 3 #[Value.int IntKind.i64 0, Value.int IntKind.i64 0, Value.int IntKind.i64 0, Value.int IntKind.i64 1, Value.int IntKind.i64 0, Value.int IntKind.i64 0, Value.int IntKind.i64 0, Value.int IntKind.i64 0, Value.int IntKind.i64 0, Value.int IntKind.i64 0, Value.int IntKind.i64 1, Value.int IntKind.i64 0, Value.int IntKind.i64 0, Value.int IntKind.i64 0, Value.int IntKind.i64 0, Value.int IntKind.i64 1] (by unfold maxLen; simp)
  have B1 := below_new (Below.refl _ w) (Obj.cells #[Value.int IntKind.i64 0, Value.int IntKind.i64 0, Value.int IntKind.i64 0, Value.int IntKind.i64 1, Value.int IntKind.i64 0, Value.int IntKind.i64 0, Value.int IntKind.i64 0, Value.int IntKind.i64 0, Value.int IntKind.i64 0, Value.int IntKind.i64 0, Value.int IntKind.i64 1, Value.int IntKind.i64 0, Value.int IntKind.i64 0, Value.int IntKind.i64 0, Value.int IntKind.i64 0, Value.int IntKind.i64 1] 3)
  generalize w.alloc (Obj.cells #[Value.int IntKind.i64 0, Value.int IntKind.i64 0, Value.int IntKind.i64 0, Value.int IntKind.i64 1, Value.int IntKind.i64 0, Value.int IntKind.i64 0, Value.int IntKind.i64 0, Value.int IntKind.i64 0, Value.int IntKind.i64 0, Value.int IntKind.i64 0, Value.int IntKind.i64 1, Value.int IntKind.i64 0, Value.int IntKind.i64 0, Value.int IntKind.i64 0, Value.int IntKind.i64 0, Value.int IntKind.i64 1] 3) = wa at *
  refine (rbits s false _ h2).mono ?_
  rintro e w2 ⟨v, rfl, hown, hb2⟩
  obtain ⟨g, cap, rfl, hgb⟩ := own_slice hown (by omega)
  have T2 := Lib.hid (own_keepS T1 hb2)
  have O2 := Lib.hid (own_zero hown)
  have B2 := below_next B1 hb2
  clear T1 B1 hb2 hown
  go_wp2_with fail
  refine (rsum 16 (8 * s.size) g cap w.heap.size 16 (preB false s.data.toList) (fun j => (0x1021#16).getMsbD j) turns16 _ (by omega) (by omega) (by rw [preB_length, Array.length_toList]; rfl) (by omega) O2.out T2.out turns_reg).mono ?_
  rintro e w3 ⟨xs, rfl, hown3, hreg, hb3⟩
  have B3 := below_next B2 hb3
  obtain ⟨F, hF⟩ : ∃ F, F = (preB false s.data.toList).foldl (stF 16 (fun j => (0x1021#16).getMsbD j)) (fun _ => true) := ⟨_, rfl⟩
  rw [← hF] at hreg
  have O3 := Lib.hid (And.intro (own_zero hown3) hreg)
  have HF := Lib.hid hF
  clear hF hreg hown3 hb3 B2 O2 T2
  go_wp2_with fail
  refine (rnumber 16 _ 16 F xs _ (by omega) O3.out.1 O3.out.2).mono ?_
  rintro e w4 ⟨rfl, rfl⟩
  rw [sum16_num _ F HF.out]
  go_wp2_with fail
  go_ret
  exact ⟨rfl, B3⟩

theorem guard_num (n : Nat) (hn : n < 18446744073709551616) : (65535 - n16 (sum16 (putL n 6))) * 281474976710656 + n % 281474976710656 = guardN n := by
  have hc : n16 (check n) = 65535 - n16 (sum16 (putL n 6)) := by
    unfold check n16
    rw [BitVec.toNat_not]
  have hl := n16_lt (check n)
  unfold guardN withN
  rw [if_pos (by unfold okF; omega), ← hc]
  have e1 : (48 : Int).toNat = 48 := rfl
  have e2 : (16 : Int).toNat = 16 := rfl
  rw [e1, e2]
  omega

set_option maxHeartbeats 1000000 in
theorem rguard (n : Nat) (w : World) (hn : n < 18446744073709551616) :
    Calls Tryz.prog 179 #[.int .u64 n] w fun e w' => e = .returned (.int .u64 (guardN n : Nat)) ∧ Below w.heap.size w w' := by
  obtain ⟨r, hr, hr2⟩ : ∃ r : Nat, (n : Int) % 281474976710656 = (r : Int) ∧ r = n % 281474976710656 := ⟨n % 281474976710656, by omega, rfl⟩
  have hrl : r < 281474976710656 := by omega
  have hg := guard_num n hn
  rw [← hr2] at hg
  have hput : putL r 6 = putL n 6 := by rw [hr2]; exact putL_mod n 6 6 (by omega)
  rw [← hput] at hg
  have HG := Lib.hid hg
  have HP := Lib.hid hput
  clear hg hput hr2
  go_enter Tryz.func179, Tryz.ntmps179
  go_wp2_with fail
  refine (rput_any r 6 _ (by omega) (by omega) (by omega)).mono ?_
  rintro e w1 ⟨rfl, hb1⟩
  rw [show clamp8 6 = 6 from rfl]
  go_wp2_with fail
  refine (rsum16 _ _ (by rw [size_is3, putL_length]; omega) (by rw [size_is3, putL_length]; omega)).mono ?_
  rintro e w2 ⟨rfl, hb2⟩
  rw [show (ByteArray.mk (putL r 6).toArray).data.toList = putL r 6 by simp]
  have hl := n16_lt (sum16 (putL r 6))
  have hgc : ((65535 - (n16 (sum16 (putL r 6)) : Int)) * 281474976710656 + (r : Int)) = ((guardN n : Nat) : Int) := by rw [← HG.out]; omega
  generalize n16 (sum16 (putL r 6)) = c at *
  have B2 := below_next hb1 hb2
  clear hb1 hb2
  have HGC := Lib.hid hgc
  clear hgc
  go_wp2_with fail
  rw [HGC.out]
  go_ret
  exact ⟨rfl, B2⟩

end Go.Proofs.YtjbhallhmnahbaaGreat
