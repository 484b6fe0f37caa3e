/-
  The walks of layer 2's statements: checks of mixed texts.
-/
import Derived.Test.YtlneehkkngnjhaaCrc
import Derived.Lib.IndexBytes
namespace Go.Proofs.Ytlneehkkngnjhaa
open Go.RowKit

def nums : List UInt8 := [49, 50, 51, 52, 53, 54, 55, 56, 57]
theorem guard77 : guardN (guardN 77) = guardN 77 := by decide +kernel
theorem low77 : low48 (guardN 77) = 77 := by decide +kernel
theorem guard0 : guardN 0 ≠ 0 := by decide +kernel
theorem nums16 : n16 (sum16 nums) = 10673 := by decide +kernel
theorem nums32 : n32 (sum32 nums) = 3808858755 := by decide +kernel

set_option maxHeartbeats 800000 in
theorem wakes2_any (w : World) :
    Calls Try.prog 26 #[] w fun e w' => e = .returned (.bool true) ∧ Below w.heap.size w w' := by
  have hg := guardN_lt 77 (by omega)
  go_enter Try.func26, Try.ntmps26
  go_wp2_with fail
  refine (guard_any 77 _ (by omega)).mono ?_
  rintro e w1 ⟨rfl, hb1⟩
  go_wp2_with fail
  refine (guarded_yes (guardN 77) _ hg guard77).mono ?_
  rintro e w2 ⟨rfl, hb2⟩
  rw [low77]
  go_wp2_with fail
  refine (guarded_no 0 _ (by omega) guard0).mono ?_
  rintro e w3 ⟨rfl, hb3⟩
  go_wp2_with fail
  refine (sum16_any ⟨nums.toArray⟩ _ (by decide)).mono ?_
  rintro e w4 ⟨rfl, rfl⟩
  rw [show (ByteArray.mk nums.toArray).data.toList = nums from rfl, nums16]
  go_wp2_with fail
  refine (sum32_any ⟨nums.toArray⟩ _ (by decide)).mono ?_
  rintro e w5 ⟨rfl, rfl⟩
  rw [show (ByteArray.mk nums.toArray).data.toList = nums from rfl, nums32]
  go_wp2_with fail
  go_ret
  have k1 := hb1.size
  have k2 := hb2.size
  exact ⟨rfl, (hb1.trans (hb2.mono (by omega))).trans (hb3.mono (by omega))⟩

theorem xor_bytes (a b c : UInt8) : bits .xor .u8 (bits .xor .u8 (a.toNat : Int) (b.toNat : Int)) (c.toNat : Int) = ((a ^^^ b ^^^ c).toNat : Int) := by
  have ha := a.toNat_lt
  have hb := b.toNat_lt
  have hc := c.toNat_lt
  have hx : a.toNat ^^^ b.toNat < 2 ^ 8 := Nat.xor_lt_two_pow ha hb
  rw [u8_xor_nat _ _ ha hb, u8_xor_nat _ _ (by omega) hc]
  simp

theorem min4 (P : Program) (ts : Array TypeId) (t : TypeId) (x y z u : Int) (n : Int) (w : World) (h : n = min (min (min x y) z) u) :
    (Builtin.min_ ts t #[.int .i64 x, .int .i64 y, .int .i64 z, .int .i64 u]).run P w = .ok (.int .i64 n) w := by
  subst h
  simp only [Builtin.min_, Builtin.min2, List.foldlM, pure_bind]
  have e : ∀ p q : Int, (if q < p then q else p) = min p q := by intro p q; omega
  simp only [e]
  rfl

/-- Byte j of the mixed text. -/
theorem mix3_length : ∀ (l m n : List UInt8), l.length = m.length → m.length = n.length → (mix3 l m n).length = l.length
  | [], [], [], _, _ => rfl
  | a :: l, b :: m, c :: n, h, h' => by simp [mix3, mix3_length l m n (by simpa using h) (by simpa using h')]
  | [], _ :: _, _, h, _ => by simp at h
  | _ :: _, [], _, h, _ => by simp at h
  | [], [], _ :: _, _, h => by simp at h
  | _ :: _, _ :: _, [], _, h => by simp at h
theorem mix3_get : ∀ (l m n : List UInt8) (j : Nat) (h1 : j < l.length) (h2 : j < m.length) (h3 : j < n.length), (mix3 l m n)[j]? = some (l[j] ^^^ m[j] ^^^ n[j])
  | a :: l, b :: m, c :: n, 0, _, _, _ => rfl
  | a :: l, b :: m, c :: n, j + 1, h1, h2, h3 => by
    simp only [mix3, List.getElem?_cons_succ, List.getElem_cons_succ]
    exact mix3_get l m n j _ _ _
  | [], _, _, _, h, _, _ => by simp at h
  | _ :: _, [], _, _, _, h, _ => by simp at h
  | _ :: _, _ :: _, [], _, _, _, h => by simp at h

theorem xor16_walk (x y z : BitVec 16) : bits .xor .u16 (bits .xor .u16 (n16 x : Int) (n16 y : Int)) (n16 z : Int) = (n16 (x ^^^ y ^^^ z) : Int) := by
  rw [u16_xor_nat _ _ (n16_lt x) (n16_lt y)]
  unfold n16
  rw [← BitVec.toNat_xor, u16_xor_nat _ _ (BitVec.isLt _) z.isLt, ← BitVec.toNat_xor]
theorem xor32_walk (x y z : BitVec 32) : bits .xor .u32 (bits .xor .u32 (n32 x : Int) (n32 y : Int)) (n32 z : Int) = (n32 (x ^^^ y ^^^ z) : Int) := by
  rw [u32_xor_nat _ _ (n32_lt x) (n32_lt y)]
  unfold n32
  rw [← BitVec.toNat_xor, u32_xor_nat _ _ (BitVec.isLt _) z.isLt, ← BitVec.toNat_xor]
theorem own_below {w w' : World} {base : Nat} {e : TypeId} {size n : Nat} {v : Value} {xs : List Value} (h : w.ownsRow base e size v n xs) (hb : Below w.heap.size w w') : w'.ownsRow base e size v n xs := by
  refine ⟨h.1, ?_⟩
  rcases h.2 with hn | ⟨g, cap, cur, rfl, hg, hh, rest⟩
  · exact .inl hn
  · exact .inr ⟨g, cap, cur, rfl, hg, (hb.block g (Array.getElem?_eq_some_iff.1 hh).1).trans hh, rest⟩

/-- The first k bytes are mixed. -/
def DoneMix (a b c : ByteArray) (k : Nat) (xs : List Value) : Prop :=
  ∀ j (h0 : j < a.size) (h1 : j < b.size) (h2 : j < c.size), j < k → xs[j]? = some (byteV (a[j] ^^^ b[j] ^^^ c[j]))
theorem DoneMix.next {a b c : ByteArray} {k : Nat} {xs : List Value} (h : DoneMix a b c k xs) (h0 : k < a.size) (h1 : k < b.size) (h2 : k < c.size) (hk : k < xs.length) :
    DoneMix a b c (k + 1) (xs.set k (.int .u8 ((a[k] ^^^ b[k] ^^^ c[k]).toNat : Int))) := by
  intro j g0 g1 g2 hj
  by_cases e : j = k
  · subst e
    rw [List.getElem?_set_self hk]; rfl
  · rw [List.getElem?_set_ne (fun h => e h.symm)]
    exact h j g0 g1 g2 (by omega)
theorem DoneMix.all {a b c : ByteArray} {n : Nat} {xs : List Value} (h : DoneMix a b c n xs) (h0 : n ≤ a.size) (h1 : n ≤ b.size) (h2 : n ≤ c.size) (hx : xs.length = n) :
    xs = (mix3 (a.extract 0 n).data.toList (b.extract 0 n).data.toList (c.extract 0 n).data.toList).map byteV := by
  have l0 : (a.extract 0 n).data.toList.length = n := by rw [← Lib.size_eq, ByteArray.size_extract]; omega
  have l1 : (b.extract 0 n).data.toList.length = n := by rw [← Lib.size_eq, ByteArray.size_extract]; omega
  have l2 : (c.extract 0 n).data.toList.length = n := by rw [← Lib.size_eq, ByteArray.size_extract]; omega
  apply List.ext_getElem?
  intro j
  by_cases hj : j < n
  · rw [h j (by omega) (by omega) (by omega) hj, List.getElem?_map, mix3_get _ _ _ j (by omega) (by omega) (by omega)]
    have e : ∀ (s : ByteArray) (hs : n ≤ s.size) (hl : j < (s.extract 0 n).data.toList.length), (s.extract 0 n).data.toList[j] = s[j] := by
      intro s hs hl
      have : (s.extract 0 n).data.toList[j]? = s.data.toList[j]? := by
        rw [Lib.extract_data, List.drop_zero, List.getElem?_take_of_lt (by omega)]
      rw [List.getElem?_eq_getElem hl, List.getElem?_eq_getElem (by simpa using (show j < s.size by omega))] at this
      exact Option.some.inj this
    simp only [Option.map_some]
    rw [e a h0, e b h1, e c h2]
  · rw [List.getElem?_eq_none (by omega), List.getElem?_eq_none (by rw [List.length_map, mix3_length _ _ _ (by omega) (by omega)]; omega)]

set_option maxHeartbeats 1000000 in
theorem walk_CrcMixes (a0 a1 a2 : ByteArray) (w0 : a0.size ≤ maxLen) (x0 : a0.size ≤ reachBytes) (w1 : a1.size ≤ maxLen) (x1 : a1.size ≤ reachBytes) (w2 : a2.size ≤ maxLen) (x2 : a2.size ≤ reachBytes) (w : World) :
    Calls Try.prog 11 #[.string a0, .string a1, .string a2] w fun e w' => e = .returned (.bool true) ∧ Below w.heap.size w w' := by
  unfold maxLen at w0 w1 w2
  obtain ⟨i0, hi, hz0, hz1, hz2⟩ := info_parts infoU8
  obtain ⟨n, hn, hn0, hn1, hn2, hn5⟩ : ∃ n : Nat, (n : Int) = min (min (min (a0.size : Int) (a1.size : Int)) (a2.size : Int)) 500 ∧ n ≤ a0.size ∧ n ≤ a1.size ∧ n ≤ a2.size ∧ n ≤ 500 :=
    ⟨min (min (min a0.size a1.size) a2.size) 500, by omega, by omega, by omega, by omega, by omega⟩
  have hm := fun (ts : Array TypeId) (t : TypeId) (w : World) => min4 Try.prog ts t a0.size a1.size a2.size 500 n w hn
  clear hn
  go_enter Try.func11, Try.ntmps11
  go_wp2_with (refine wpList_make_full _ rfl _ _ 53 rfl w.heap.size 5 i0 (.int .u8 0) 1 Try.underlying53 hi hz0 hz1 .i64 .i64 _ _ n rfl rfl rfl rfl (by rw [hz2]; omega) (by unfold maxLen; omega) (Nat.le_refl _) ?_; intro wm hown hgrow)
  have hbel : Below w.heap.size w wm := (Below.refl _ _).grown hgrow (Nat.le_refl _) (fun k hk => by cases hk)
  clear hgrow
  generalize hg : w.heap.size = g at *
  have HG := Lib.hid hg
  clear hg
  generalize (madeCells (Value.cells (.int .u8 0)) (n * 1)).toList = xs0 at *
  go_loopw [21] (fun i wr => ∃ (k : Nat) (xs : List Value), k ≤ n ∧ i = .int .i64 k ∧ wr.ownsRow g 5 1 (.slice (some ⟨g, 0, none⟩) n n) n xs ∧ Below g w wr ∧
      DoneMix a0 a1 a2 k xs)
    (fun i _ => n - (intOf i).toNat)
  case atStart => exact ⟨0, xs0, by omega, rfl, hown, hbel, fun j _ _ _ h => by omega⟩
  case round =>
    clear hown hbel
    obtain ⟨k, xs, hk, rfl, hown, hbel, hdone⟩ := hrel
    by_cases hlt : k < n
    · have k0 : k < a0.size := by omega
      have k1 : k < a1.size := by omega
      have k2 : k < a2.size := by omega
      have hx := xor_bytes a0[k] a1[k] a2[k]
      have hl : xs.length = n := by simpa using hown.1
      have hc := hown.cellAt k (by omega)
      rw [List.getElem?_eq_getElem (by omega)] at hc
      have hf := hown.frozenAt k
      obtain ⟨u, hu⟩ : ∃ u, u = xs[k] := ⟨_, rfl⟩
      rw [← hu] at hc
      clear hu
      have hnext := hdone.next k0 k1 k2 (by omega)
      have hst := hown.stored k (.int .u8 ((a0[k] ^^^ a1[k] ^^^ a2[k]).toNat : Int))
      have HS := Lib.hid (And.intro hnext (And.intro hst.1 (hbel.setCell (p := ⟨g, k, none⟩) (Nat.le_refl _) (.int .u8 ((a0[k] ^^^ a1[k] ^^^ a2[k]).toNat : Int)))))
      clear hnext hst hown hbel hdone
      go_wp2
      go_region
      go_wp2
      go_roundw
      case rel => exact ⟨k + 1, _, by omega, by go_num, HS.out.2.1, HS.out.2.2.drew, HS.out.1⟩
      case measure => simp [intOf]; omega
    · obtain rfl : k = n := by omega
      have hl : xs.length = k := by simpa using hown.1
      have hall := hdone.all hn0 hn1 hn2 hl
      rw [hall] at hown
      have z0 : (a0.extract 0 k).size = k := by rw [ByteArray.size_extract]; omega
      have z1 : (a1.extract 0 k).size = k := by rw [ByteArray.size_extract]; omega
      have z2 : (a2.extract 0 k).size = k := by rw [ByteArray.size_extract]; omega
      clear hall hdone
      have HO := Lib.hid hown
      clear hown
      go_wp2_with fail
      go_region
      go_wp2_with fail
      generalize a0.extract 0 k = A at *
      generalize a1.extract 0 k = B at *
      generalize a2.extract 0 k = C at *
      have k16 := sum16_mix A.data.toList B.data.toList C.data.toList (by rw [← Lib.size_eq, ← Lib.size_eq]; omega) (by rw [← Lib.size_eq, ← Lib.size_eq]; omega)
      have k32 := sum32_mix A.data.toList B.data.toList C.data.toList (by rw [← Lib.size_eq, ← Lib.size_eq]; omega) (by rw [← Lib.size_eq, ← Lib.size_eq]; omega)
      have ml : (mix3 A.data.toList B.data.toList C.data.toList).length = k := by
        rw [mix3_length _ _ _ (by rw [← Lib.size_eq, ← Lib.size_eq]; omega) (by rw [← Lib.size_eq, ← Lib.size_eq]; omega), ← Lib.size_eq]; exact z0
      have hown := HO.out
      clear HO
      generalize mix3 A.data.toList B.data.toList C.data.toList = M at *
      have ms : (ByteArray.mk M.toArray).size = k := by simpa [ByteArray.size] using ml
      refine (wakes2_any _).mono ?_
      rintro e w1 ⟨rfl, hb1⟩
      have hown1 := own_below hown.drew hb1
      have hconv1 := own_conv hown1
      clear hown hown1 ml
      have em : (ByteArray.mk M.toArray).data.toList = M := by simp
      rw [← em] at k16 k32
      clear em
      generalize ByteArray.mk M.toArray = S at *
      have K16 := Lib.hid k16
      have K32 := Lib.hid k32
      clear k16 k32
      have hf16 := xor16_walk
      have hf32 := xor32_walk
      have zm : k ≤ maxLen := by unfold maxLen; omega
      go_wp2_with fail
      refine (sum16_any S _ (by omega)).mono ?_
      rintro e w2 ⟨rfl, rfl⟩
      rw [K16.out]
      go_wp2_with fail
      refine (sum16_any A _ (by omega)).mono ?_
      rintro e w2 ⟨rfl, rfl⟩
      go_wp2_with fail
      refine (sum16_any B _ (by omega)).mono ?_
      rintro e w2 ⟨rfl, rfl⟩
      go_wp2_with fail
      refine (sum16_any C _ (by omega)).mono ?_
      rintro e w2 ⟨rfl, rfl⟩
      go_wp2_with fail
      refine (sum32_any S _ (by omega)).mono ?_
      rintro e w2 ⟨rfl, rfl⟩
      rw [K32.out]
      go_wp2_with fail
      refine (sum32_any A _ (by omega)).mono ?_
      rintro e w2 ⟨rfl, rfl⟩
      go_wp2_with fail
      refine (sum32_any B _ (by omega)).mono ?_
      rintro e w2 ⟨rfl, rfl⟩
      go_wp2_with fail
      refine (sum32_any C _ (by omega)).mono ?_
      rintro e w2 ⟨rfl, rfl⟩
      go_wp2_with fail
      go_ret
      exact ⟨rfl, by rw [HG.out]; exact hbel.drew.trans (hb1.mono (by have := hbel.drew.size; rw [HG.out] at this; exact this))⟩

end Go.Proofs.Ytlneehkkngnjhaa
