/-
  Layer 15: a list's bytes, and the list of bytes, without the program.
-/
import Derived.Test.YtpkhfdcokcchdabExP
import Derived.Test.YtpkhfdcokcchdabPure
namespace Go.Proofs.Ytpkhfdcokcchdab

def recB (e : Int × Int) : List UInt8 := putL (e.1 + 1).toNat 4 ++ putL e.2.toNat 4
def bytP (l : List (Int × Int)) : List UInt8 := l.flatMap recB
def pairB (s : List UInt8) : Int × Int := ((getL (s.take 4) : Int) - 1, (getL ((s.drop 4).take 4) : Int))
def parP (s : List UInt8) (k : Nat) : List (Int × Int) := (List.range k).map fun i => pairB (s.drop (8 * i))
theorem recB_len (e : Int × Int) : (recB e).length = 8 := by simp [recB, putL_length]
theorem bytP_cons (e : Int × Int) (r : List (Int × Int)) : bytP (e :: r) = recB e ++ bytP r := by simp [bytP]
theorem bytP_append (A B : List (Int × Int)) : bytP (A ++ B) = bytP A ++ bytP B := by simp [bytP]
theorem bytP_one (e : Int × Int) : bytP [e] = recB e := by simp [bytP]
theorem bytP_len (l : List (Int × Int)) : (bytP l).length = 8 * l.length := by
  induction l with
  | nil => rfl
  | cons e r ih => rw [bytP_cons, List.length_append, recB_len, ih, List.length_cons]; omega
theorem bytP_take {l : List (Int × Int)} {k : Nat} {e : Int × Int} (h : l[k]? = some e) : bytP (l.take (k + 1)) = bytP (l.take k) ++ recB e := by
  obtain ⟨a, b⟩ := List.getElem?_eq_some_iff.1 h
  rw [List.take_succ_eq_append_getElem a, b, bytP_append, bytP_one]
theorem parP_up (s : List UInt8) (k : Nat) : parP s (k + 1) = parP s k ++ [pairB (s.drop (8 * k))] := by
  simp [parP, List.range_succ]
theorem parP_len (s : List UInt8) (k : Nat) : (parP s k).length = k := by simp [parP]
theorem parP_zero (s : List UInt8) : parP s 0 = [] := rfl
theorem pairB_recB {e : Int × Int} (r : List UInt8) (h : -1 ≤ e.1 ∧ e.1 ≤ 65536 ∧ 1 ≤ e.2 ∧ e.2 ≤ 65536) : pairB (recB e ++ r) = e := by
  obtain ⟨a, n⟩ := e
  simp only at h
  have h1 : (recB (a, n) ++ r).take 4 = putL (a + 1).toNat 4 := by
    unfold recB
    rw [List.append_assoc]
    exact List.take_left' (putL_length _ _)
  have h2 : ((recB (a, n) ++ r).drop 4).take 4 = putL n.toNat 4 := by
    unfold recB
    rw [List.append_assoc, List.drop_left' (putL_length _ _)]
    exact List.take_left' (putL_length _ _)
  unfold pairB
  rw [h1, h2, getL_putL, getL_putL]
  have e0 : (256 : Nat) ^ 4 = 4294967296 := by decide
  rw [e0, Nat.mod_eq_of_lt (by omega), Nat.mod_eq_of_lt (by omega)]
  refine Prod.ext ?_ ?_ <;> simp only <;> omega
theorem bytP_drop (l : List (Int × Int)) (i : Nat) : (bytP l).drop (8 * i) = bytP (l.drop i) := by
  induction l generalizing i with
  | nil => simp [bytP]
  | cons e r ih =>
    cases i with
    | zero => simp
    | succ i =>
      rw [bytP_cons, List.drop_succ_cons, ← ih i, show 8 * (i + 1) = 8 * i + 8 by omega, Nat.add_comm, ← List.drop_drop, List.drop_left' (recB_len e)]
theorem parP_bytP {l : List (Int × Int)} (h : ∀ e ∈ l, -1 ≤ e.1 ∧ e.1 ≤ 65536 ∧ 1 ≤ e.2 ∧ e.2 ≤ 65536) : parP (bytP l) l.length = l := by
  refine List.ext_getElem (parP_len _ _) fun i h1 h2 => ?_
  simp only [parP, List.getElem_map, List.getElem_range]
  rw [bytP_drop, List.drop_eq_getElem_cons h2, bytP_cons]
  exact pairB_recB _ (h _ (List.getElem_mem h2))
theorem recB_pairB (t : List UInt8) (h : 8 ≤ t.length) : recB (pairB t) = t.take 8 := by
  unfold recB pairB
  simp only
  have e1 : (((getL (t.take 4) : Nat) : Int) - 1 + 1).toNat = getL (t.take 4) := by omega
  have e2 : (((getL ((t.drop 4).take 4) : Nat) : Int)).toNat = getL ((t.drop 4).take 4) := by omega
  have h1 := putL_getL (t.take 4)
  have h2 := putL_getL ((t.drop 4).take 4)
  rw [List.length_take, Nat.min_eq_left (by omega)] at h1
  rw [List.length_take, List.length_drop, Nat.min_eq_left (by omega)] at h2
  rw [e1, e2, h1, h2]
  rw [show (8 : Nat) = 4 + 4 from rfl, List.take_add]
theorem bytP_parP (s : List UInt8) (k : Nat) (h : 8 * k ≤ s.length) : bytP (parP s k) = s.take (8 * k) := by
  induction k with
  | zero => simp [parP, bytP]
  | succ k ih =>
    rw [parP_up, bytP_append, ih (by omega), bytP_one, recB_pairB _ (by rw [List.length_drop]; omega), show 8 * (k + 1) = 8 * k + 8 by omega, List.take_add]
theorem pairB_bd (s : List UInt8) : -1 ≤ (pairB s).1 ∧ (pairB s).1 ≤ 4294967295 ∧ 0 ≤ (pairB s).2 ∧ (pairB s).2 ≤ 4294967295 := by
  have e0 : (256 : Nat) ^ 4 = 4294967296 := by decide
  have key : ∀ t : List UInt8, getL (t.take 4) < 4294967296 := fun t => by
    have h1 := getL_lt (t.take 4)
    have h2 : (256 : Nat) ^ (t.take 4).length ≤ 256 ^ 4 := Nat.pow_le_pow_right (by omega) (by rw [List.length_take]; omega)
    omega
  have h1 := key s
  have h2 := key (s.drop 4)
  unfold pairB
  simp only
  omega
/-- The bytes of a list that may be tell that list alone. -/
theorem parP_of {s : List UInt8} {T : List (Int × Int)} (h : Right15 T) (hs : s = bytP T) (k : Nat) (hk : s.length = 8 * k) : parP s k = T := by
  have hl := bytP_len T
  rw [← hs] at hl
  have : k = T.length := by omega
  subst this
  rw [hs]
  exact parP_bytP (okK_all h.2.1).1
theorem bytP_inj {A B : List (Int × Int)} (hA : Right15 A) (hB : Right15 B) (h : bytP A = bytP B) : A = B := by
  have h1 := parP_of hA rfl A.length (bytP_len A)
  have h2 := parP_of hB h A.length (bytP_len A)
  rw [← h1, h2]

end Go.Proofs.Ytpkhfdcokcchdab
