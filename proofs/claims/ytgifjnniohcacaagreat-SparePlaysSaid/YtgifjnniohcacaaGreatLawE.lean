/-
  The walks of layer 2's statements: checks of mixed texts.
-/
import Derived.Test.YtgifjnniohcacaaGreatCrc
import Derived.Lib.IndexBytes
namespace Go.Proofs.YtgifjnniohcacaaGreat
open Go.RowKit

def nums : List UInt8 := [49, 50, 51, 52, 53, 54, 55, 56, 57]
theorem guard77 : guardN (guardN 77) = guardN 77 := by decide +kernel
theorem low77 : low48 (guardN 77) = 77 := by decide +kernel
theorem guard0 : guardN 0 ≠ 0 := by decide +kernel
theorem nums16 : n16 (sum16 nums) = 10673 := by decide +kernel
theorem nums32 : n32 (sum32 nums) = 3808858755 := by decide +kernel

theorem xor_bytes (a b c : UInt8) : bits .xor .u8 (bits .xor .u8 (a.toNat : Int) (b.toNat : Int)) (c.toNat : Int) = ((a ^^^ b ^^^ c).toNat : Int) := by
  have ha := a.toNat_lt
  have hb := b.toNat_lt
  have hc := c.toNat_lt
  have hx : a.toNat ^^^ b.toNat < 2 ^ 8 := Nat.xor_lt_two_pow ha hb
  rw [u8_xor_nat _ _ ha hb, u8_xor_nat _ _ (by omega) hc]
  simp

theorem min4 (P : Program) (ts : Array TypeId) (t : TypeId) (x y z u : Int) (n : Int) (w : World) (h : n = min (min (min x y) z) u) :
    (Builtin.min_ ts t #[.int .i64 x, .int .i64 y, .int .i64 z, .int .i64 u]).run P w = .ok (.int .i64 n) w := by
  subst h
  simp only [Builtin.min_, Builtin.min2, List.foldlM, pure_bind]
  have e : ∀ p q : Int, (if q < p then q else p) = min p q := by intro p q; omega
  simp only [e]
  rfl

/-- Byte j of the mixed text. -/
theorem mix3_length : ∀ (l m n : List UInt8), l.length = m.length → m.length = n.length → (mix3 l m n).length = l.length
  | [], [], [], _, _ => rfl
  | a :: l, b :: m, c :: n, h, h' => by simp [mix3, mix3_length l m n (by simpa using h) (by simpa using h')]
  | [], _ :: _, _, h, _ => by simp at h
  | _ :: _, [], _, h, _ => by simp at h
  | [], [], _ :: _, _, h => by simp at h
  | _ :: _, _ :: _, [], _, h => by simp at h
theorem mix3_get : ∀ (l m n : List UInt8) (j : Nat) (h1 : j < l.length) (h2 : j < m.length) (h3 : j < n.length), (mix3 l m n)[j]? = some (l[j] ^^^ m[j] ^^^ n[j])
  | a :: l, b :: m, c :: n, 0, _, _, _ => rfl
  | a :: l, b :: m, c :: n, j + 1, h1, h2, h3 => by
    simp only [mix3, List.getElem?_cons_succ, List.getElem_cons_succ]
    exact mix3_get l m n j _ _ _
  | [], _, _, _, h, _, _ => by simp at h
  | _ :: _, [], _, _, _, h, _ => by simp at h
  | _ :: _, _ :: _, [], _, _, _, h => by simp at h

theorem xor16_walk (x y z : BitVec 16) : bits .xor .u16 (bits .xor .u16 (n16 x : Int) (n16 y : Int)) (n16 z : Int) = (n16 (x ^^^ y ^^^ z) : Int) := by
  rw [u16_xor_nat _ _ (n16_lt x) (n16_lt y)]
  unfold n16
  rw [← BitVec.toNat_xor, u16_xor_nat _ _ (BitVec.isLt _) z.isLt, ← BitVec.toNat_xor]
theorem xor32_walk (x y z : BitVec 32) : bits .xor .u32 (bits .xor .u32 (n32 x : Int) (n32 y : Int)) (n32 z : Int) = (n32 (x ^^^ y ^^^ z) : Int) := by
  rw [u32_xor_nat _ _ (n32_lt x) (n32_lt y)]
  unfold n32
  rw [← BitVec.toNat_xor, u32_xor_nat _ _ (BitVec.isLt _) z.isLt, ← BitVec.toNat_xor]
theorem own_below {w w' : World} {base : Nat} {e : TypeId} {size n : Nat} {v : Value} {xs : List Value} (h : w.ownsRow base e size v n xs) (hb : Below w.heap.size w w') : w'.ownsRow base e size v n xs := by
  refine ⟨h.1, ?_⟩
  rcases h.2 with hn | ⟨g, cap, cur, rfl, hg, hh, rest⟩
  · exact .inl hn
  · exact .inr ⟨g, cap, cur, rfl, hg, (hb.block g (Array.getElem?_eq_some_iff.1 hh).1).trans hh, rest⟩

/-- The first k bytes are mixed. -/
def DoneMix (a b c : ByteArray) (k : Nat) (xs : List Value) : Prop :=
  ∀ j (h0 : j < a.size) (h1 : j < b.size) (h2 : j < c.size), j < k → xs[j]? = some (byteV (a[j] ^^^ b[j] ^^^ c[j]))
theorem DoneMix.next {a b c : ByteArray} {k : Nat} {xs : List Value} (h : DoneMix a b c k xs) (h0 : k < a.size) (h1 : k < b.size) (h2 : k < c.size) (hk : k < xs.length) :
    DoneMix a b c (k + 1) (xs.set k (.int .u8 ((a[k] ^^^ b[k] ^^^ c[k]).toNat : Int))) := by
  intro j g0 g1 g2 hj
  by_cases e : j = k
  · subst e
    rw [List.getElem?_set_self hk]; rfl
  · rw [List.getElem?_set_ne (fun h => e h.symm)]
    exact h j g0 g1 g2 (by omega)
theorem DoneMix.all {a b c : ByteArray} {n : Nat} {xs : List Value} (h : DoneMix a b c n xs) (h0 : n ≤ a.size) (h1 : n ≤ b.size) (h2 : n ≤ c.size) (hx : xs.length = n) :
    xs = (mix3 (a.extract 0 n).data.toList (b.extract 0 n).data.toList (c.extract 0 n).data.toList).map byteV := by
  have l0 : (a.extract 0 n).data.toList.length = n := by rw [← Lib.size_eq, ByteArray.size_extract]; omega
  have l1 : (b.extract 0 n).data.toList.length = n := by rw [← Lib.size_eq, ByteArray.size_extract]; omega
  have l2 : (c.extract 0 n).data.toList.length = n := by rw [← Lib.size_eq, ByteArray.size_extract]; omega
  apply List.ext_getElem?
  intro j
  by_cases hj : j < n
  · rw [h j (by omega) (by omega) (by omega) hj, List.getElem?_map, mix3_get _ _ _ j (by omega) (by omega) (by omega)]
    have e : ∀ (s : ByteArray) (hs : n ≤ s.size) (hl : j < (s.extract 0 n).data.toList.length), (s.extract 0 n).data.toList[j] = s[j] := by
      intro s hs hl
      have : (s.extract 0 n).data.toList[j]? = s.data.toList[j]? := by
        rw [Lib.extract_data, List.drop_zero, List.getElem?_take_of_lt (by omega)]
      rw [List.getElem?_eq_getElem hl, List.getElem?_eq_getElem (by simpa using (show j < s.size by omega))] at this
      exact Option.some.inj this
    simp only [Option.map_some]
    rw [e a h0, e b h1, e c h2]
  · rw [List.getElem?_eq_none (by omega), List.getElem?_eq_none (by rw [List.length_map, mix3_length _ _ _ (by omega) (by omega)]; omega)]

end Go.Proofs.YtgifjnniohcacaaGreat
