/-
  Plain lemmas on the two checksums, without any program: the register as a bit vector, and as a list of bits.
-/
import Derived.WalkKit
namespace Go.Proofs.YtdgcninmpcmdcaaGreat

/-! ### The registers, one bit out and eight -/
def s16 (x : BitVec 16) : BitVec 16 := (x <<< 1) ^^^ (if x.msb then 0x1021#16 else 0#16)
def s32 (x : BitVec 32) : BitVec 32 := (x >>> 1) ^^^ (if x.getLsbD 0 then 0x82F63B78#32 else 0#32)
def b16 (x : BitVec 16) (b : UInt8) : BitVec 16 := s16 (s16 (s16 (s16 (s16 (s16 (s16 (s16 (x ^^^ (BitVec.ofNat 16 b.toNat <<< 8)))))))))
def b32 (x : BitVec 32) (b : UInt8) : BitVec 32 := s32 (s32 (s32 (s32 (s32 (s32 (s32 (s32 (x ^^^ BitVec.ofNat 32 b.toNat))))))))
def c16 (l : List UInt8) (x : BitVec 16) : BitVec 16 := l.foldl b16 x
def c32 (l : List UInt8) (x : BitVec 32) : BitVec 32 := l.foldl b32 x
def sum16 (l : List UInt8) : BitVec 16 := c16 l 0xFFFF#16
def sum32 (l : List UInt8) : BitVec 32 := ~~~ (c32 l 0xFFFFFFFF#32)

/-! ### Linear -/
theorem xor3 {n : Nat} (a b c d : BitVec n) : (a ^^^ b) ^^^ (c ^^^ d) = (a ^^^ c) ^^^ (b ^^^ d) := by
  simp only [BitVec.xor_assoc]
  congr 1
  rw [← BitVec.xor_assoc, BitVec.xor_comm b c, BitVec.xor_assoc]
theorem ite_xor {n : Nat} (a b : Bool) (p : BitVec n) : (if (a ^^ b) = true then p else 0#n) = (if a = true then p else 0#n) ^^^ (if b = true then p else 0#n) := by
  cases a <;> cases b <;> simp
theorem s16_xor (x y : BitVec 16) : s16 (x ^^^ y) = s16 x ^^^ s16 y := by
  unfold s16
  rw [BitVec.shiftLeft_xor_distrib, BitVec.msb_xor, ite_xor, xor3]
theorem s32_xor (x y : BitVec 32) : s32 (x ^^^ y) = s32 x ^^^ s32 y := by
  unfold s32
  rw [BitVec.ushiftRight_xor_distrib, BitVec.getLsbD_xor, ite_xor, xor3]
theorem byte16_xor (a b : UInt8) : BitVec.ofNat 16 (a ^^^ b).toNat = BitVec.ofNat 16 a.toNat ^^^ BitVec.ofNat 16 b.toNat := by
  apply BitVec.eq_of_toNat_eq
  rw [BitVec.toNat_xor]
  have ha := a.toNat_lt
  have hb := b.toNat_lt
  have hx : a.toNat ^^^ b.toNat < 2 ^ 8 := Nat.xor_lt_two_pow ha hb
  simp only [BitVec.toNat_ofNat, UInt8.toNat_xor]
  rw [Nat.mod_eq_of_lt (by omega), Nat.mod_eq_of_lt (by omega), Nat.mod_eq_of_lt (by omega)]
theorem byte32_xor (a b : UInt8) : BitVec.ofNat 32 (a ^^^ b).toNat = BitVec.ofNat 32 a.toNat ^^^ BitVec.ofNat 32 b.toNat := by
  apply BitVec.eq_of_toNat_eq
  rw [BitVec.toNat_xor]
  have ha := a.toNat_lt
  have hb := b.toNat_lt
  have hx : a.toNat ^^^ b.toNat < 2 ^ 8 := Nat.xor_lt_two_pow ha hb
  simp only [BitVec.toNat_ofNat, UInt8.toNat_xor]
  rw [Nat.mod_eq_of_lt (by omega), Nat.mod_eq_of_lt (by omega), Nat.mod_eq_of_lt (by omega)]
theorem b16_xor (x y : BitVec 16) (a b : UInt8) : b16 (x ^^^ y) (a ^^^ b) = b16 x a ^^^ b16 y b := by
  unfold b16
  rw [byte16_xor, BitVec.shiftLeft_xor_distrib, xor3]
  simp only [s16_xor]
theorem b32_xor (x y : BitVec 32) (a b : UInt8) : b32 (x ^^^ y) (a ^^^ b) = b32 x a ^^^ b32 y b := by
  unfold b32
  rw [byte32_xor, xor3]
  simp only [s32_xor]

/-- Three texts of one length, byte by byte. -/
def mix3 : List UInt8 → List UInt8 → List UInt8 → List UInt8
  | a :: l, b :: m, c :: n => (a ^^^ b ^^^ c) :: mix3 l m n
  | _, _, _ => []
theorem c16_mix : ∀ (l m n : List UInt8) (x y z : BitVec 16), l.length = m.length → m.length = n.length → c16 (mix3 l m n) (x ^^^ y ^^^ z) = c16 l x ^^^ c16 m y ^^^ c16 n z
  | [], [], [], x, y, z, _, _ => rfl
  | a :: l, b :: m, c :: n, x, y, z, h, h' => by
    simp only [mix3, c16, List.foldl_cons]
    rw [b16_xor, b16_xor]
    exact c16_mix l m n _ _ _ (by simpa using h) (by simpa using h')
  | [], _ :: _, _, _, _, _, h, _ => by simp at h
  | _ :: _, [], _, _, _, _, h, _ => by simp at h
  | [], [], _ :: _, _, _, _, _, h => by simp at h
  | _ :: _, _ :: _, [], _, _, _, _, h => by simp at h
theorem c32_mix : ∀ (l m n : List UInt8) (x y z : BitVec 32), l.length = m.length → m.length = n.length → c32 (mix3 l m n) (x ^^^ y ^^^ z) = c32 l x ^^^ c32 m y ^^^ c32 n z
  | [], [], [], x, y, z, _, _ => rfl
  | a :: l, b :: m, c :: n, x, y, z, h, h' => by
    simp only [mix3, c32, List.foldl_cons]
    rw [b32_xor, b32_xor]
    exact c32_mix l m n _ _ _ (by simpa using h) (by simpa using h')
  | [], _ :: _, _, _, _, _, h, _ => by simp at h
  | _ :: _, [], _, _, _, _, h, _ => by simp at h
  | [], [], _ :: _, _, _, _, _, h => by simp at h
  | _ :: _, _ :: _, [], _, _, _, _, h => by simp at h
theorem sum16_mix (l m n : List UInt8) (h : l.length = m.length) (h' : m.length = n.length) : sum16 (mix3 l m n) = sum16 l ^^^ sum16 m ^^^ sum16 n := by
  unfold sum16
  rw [← c16_mix l m n _ _ _ h h']
  rfl
theorem sum32_mix (l m n : List UInt8) (h : l.length = m.length) (h' : m.length = n.length) : sum32 (mix3 l m n) = sum32 l ^^^ sum32 m ^^^ sum32 n := by
  unfold sum32
  have e := c32_mix l m n 0xFFFFFFFF#32 0xFFFFFFFF#32 0xFFFFFFFF#32 h h'
  rw [show (0xFFFFFFFF#32 ^^^ 0xFFFFFFFF#32 ^^^ 0xFFFFFFFF#32) = 0xFFFFFFFF#32 from by decide] at e
  rw [e]
  generalize c32 l 0xFFFFFFFF#32 = x
  generalize c32 m 0xFFFFFFFF#32 = y
  generalize c32 n 0xFFFFFFFF#32 = z
  apply BitVec.eq_of_getLsbD_eq
  intro i hi
  simp only [BitVec.getLsbD_not, BitVec.getLsbD_xor, hi, decide_true, Bool.true_and]
  cases x.getLsbD i <;> cases y.getLsbD i <;> cases z.getLsbD i <;> rfl

/-! ### One to one -/
theorem s16_zero (x : BitVec 16) (h : s16 x = 0#16) : x = 0#16 := by
  have h0 : (s16 x).getLsbD 0 = false := by rw [h]; rfl
  unfold s16 at h0 h
  cases hm : x.msb with
  | true => rw [hm] at h0; simp at h0
  | false =>
    rw [hm] at h
    simp at h
    apply BitVec.eq_of_getLsbD_eq
    intro i hi
    by_cases h15 : i = 15
    · subst h15
      have : x.msb = x.getLsbD 15 := rfl
      rw [← this, hm]; simp
    · have := congrArg (fun v => BitVec.getLsbD v (i + 1)) h
      simp at this
      rw [this (by omega)]; simp
theorem s32_zero (x : BitVec 32) (h : s32 x = 0#32) : x = 0#32 := by
  have h0 : (s32 x).getLsbD 31 = false := by rw [h]; rfl
  unfold s32 at h0 h
  cases hm : x.getLsbD 0 with
  | true => rw [hm] at h0; simp at h0
  | false =>
    rw [hm] at h
    simp at h
    apply BitVec.eq_of_getLsbD_eq
    intro i hi
    cases i with
    | zero => rw [hm]; simp
    | succ i =>
      have := congrArg (fun v => BitVec.getLsbD v i) h
      simp at this
      rw [Nat.add_comm, this]; simp
theorem xor_eq_zero {n : Nat} {a b : BitVec n} (h : a ^^^ b = 0#n) : a = b := by
  have : (a ^^^ b) ^^^ b = 0#n ^^^ b := by rw [h]
  rw [BitVec.xor_assoc, BitVec.xor_self, BitVec.xor_zero, BitVec.zero_xor] at this
  exact this
theorem s16_inj {x y : BitVec 16} (h : s16 x = s16 y) : x = y := by
  apply xor_eq_zero
  apply s16_zero
  rw [s16_xor, h, BitVec.xor_self]
theorem s32_inj {x y : BitVec 32} (h : s32 x = s32 y) : x = y := by
  apply xor_eq_zero
  apply s32_zero
  rw [s32_xor, h, BitVec.xor_self]
theorem b16_inj {x y : BitVec 16} {a b : UInt8} (h : b16 x a = b16 y b) : x ^^^ (BitVec.ofNat 16 a.toNat <<< 8) = y ^^^ (BitVec.ofNat 16 b.toNat <<< 8) :=
  s16_inj (s16_inj (s16_inj (s16_inj (s16_inj (s16_inj (s16_inj (s16_inj h)))))))
theorem b32_inj {x y : BitVec 32} {a b : UInt8} (h : b32 x a = b32 y b) : x ^^^ BitVec.ofNat 32 a.toNat = y ^^^ BitVec.ofNat 32 b.toNat :=
  s32_inj (s32_inj (s32_inj (s32_inj (s32_inj (s32_inj (s32_inj (s32_inj h)))))))
theorem xor_cancel_right {n : Nat} {a b c : BitVec n} (h : a ^^^ c = b ^^^ c) : a = b := by
  apply xor_eq_zero
  have : (a ^^^ c) ^^^ (b ^^^ c) = 0#n := by rw [h, BitVec.xor_self]
  rw [xor3, BitVec.xor_self, BitVec.xor_zero] at this
  exact this
theorem xor_cancel_left {n : Nat} {a b c : BitVec n} (h : c ^^^ a = c ^^^ b) : a = b := by
  rw [BitVec.xor_comm c a, BitVec.xor_comm c b] at h
  exact xor_cancel_right h
theorem c16_inj (l : List UInt8) : ∀ {x y : BitVec 16}, c16 l x = c16 l y → x = y := by
  induction l with
  | nil => intro x y h; exact h
  | cons a l ih => intro x y h; exact xor_cancel_right (b16_inj (ih h))
theorem c32_inj (l : List UInt8) : ∀ {x y : BitVec 32}, c32 l x = c32 l y → x = y := by
  induction l with
  | nil => intro x y h; exact h
  | cons a l ih => intro x y h; exact xor_cancel_right (b32_inj (ih h))
theorem byte_of_16 {a b : UInt8} (h : BitVec.ofNat 16 a.toNat <<< 8 = BitVec.ofNat 16 b.toNat <<< 8) : a = b := by
  have ha := a.toNat_lt
  have hb := b.toNat_lt
  have := congrArg BitVec.toNat h
  simp only [BitVec.toNat_shiftLeft, BitVec.toNat_ofNat, Nat.shiftLeft_eq] at this
  apply UInt8.toNat_inj.1
  omega
theorem byte_of_32 {a b : UInt8} (h : BitVec.ofNat 32 a.toNat = BitVec.ofNat 32 b.toNat) : a = b := by
  have ha := a.toNat_lt
  have hb := b.toNat_lt
  have := congrArg BitVec.toNat h
  simp only [BitVec.toNat_ofNat] at this
  apply UInt8.toNat_inj.1
  omega
/-- One byte another one: the check is another one. -/
theorem sum16_tells (l m : List UInt8) (a b : UInt8) (h : a ≠ b) : sum16 (l ++ a :: m) ≠ sum16 (l ++ b :: m) := by
  intro e
  unfold sum16 c16 at e
  rw [List.foldl_append, List.foldl_append, List.foldl_cons, List.foldl_cons] at e
  exact h (byte_of_16 (xor_cancel_left (b16_inj (c16_inj m e))))
theorem sum32_tells (l m : List UInt8) (a b : UInt8) (h : a ≠ b) : sum32 (l ++ a :: m) ≠ sum32 (l ++ b :: m) := by
  intro e
  unfold sum32 at e
  have e := BitVec.not_inj.1 e
  unfold c32 at e
  rw [List.foldl_append, List.foldl_append, List.foldl_cons, List.foldl_cons] at e
  exact h (byte_of_32 (xor_cancel_left (b32_inj (c32_inj m e))))

end Go.Proofs.YtdgcninmpcmdcaaGreat
