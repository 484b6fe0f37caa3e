/-
  LineTorn, the walk.
-/
import Derived.Test.YtgifjnniohcacaaMgH
namespace Go.Proofs.Ytgifjnniohcacaa
open Go.RowKit
set_option linter.unusedVariables false

theorem keep_of {w0 w1 : World} {v : Value} {kf : Nat → Bool} (h : w1.ownsRow w0.heap.size 4 1 v 8 ((List.range 8).map fun j => .bool (kf j))) : KeepIs w1 v 8 (fun j => if j < 8 then kf j else false) := by
  have hcells := fun g (hg : v.ownBlock = some g) => h.cells hg
  rcases h.2 with ⟨_, h0⟩ | ⟨g, cap, cur, rfl, hg, hh, _⟩
  · omega
  · refine ⟨some ⟨g, 0, none⟩, cap, rfl, fun j hj => ⟨g, 0, rfl, (Array.getElem?_eq_some_iff.1 hh).1, ?_⟩, fun j hj => if_neg (by omega), by unfold maxLen; omega⟩
    have := hcells g rfl j (.bool (kf j)) (by rw [List.getElem?_map, List.getElem?_range hj]; rfl)
    rw [addp] at this
    rw [Nat.zero_add, this]
    dsimp only
    rw [if_pos hj]

theorem KeepIs.grT {W W' : World} {v : Value} {kl : Nat} {kp : Nat → Bool} (h : KeepIs W v kl kp) (g : Gr [] W W') : KeepIs W' v kl kp := by
  obtain ⟨ao, kc, rfl, h1, h2⟩ := h
  refine ⟨ao, kc, rfl, fun j hj => ?_, h2⟩
  obtain ⟨b, o, e, hb, hc⟩ := h1 j hj
  exact ⟨b, o, e, Nat.lt_of_lt_of_le hb g.size, (g.cell0 hb).trans hc⟩
theorem torn_round (s : ByteArray) (k v : Nat) (h : k < s.size) (h8 : k < 8) (hv : v = getL ((s.data.toList.take 8).drop (k + 1))) :
    bits .or .u64 (IntKind.u64.wrap ((v : Int) * 256)) (IntKind.u64.wrap (s[k].toNat : Int)) = ((getL ((s.data.toList.take 8).drop k) : Nat) : Int) := by
  have hl : k < s.data.toList.length := by simpa using h
  have hlt : k < (s.data.toList.take 8).length := by rw [List.length_take]; omega
  have hb : s[k].toNat < 256 := s[k].toNat_lt
  have es : (s.data.toList.take 8)[k] = s[k] := by rw [List.getElem_take]; rfl
  have hv2 : v < 256 ^ 7 := by
    rw [hv]
    refine Nat.lt_of_lt_of_le (getL_lt _) (Nat.pow_le_pow_right (by omega) ?_)
    rw [List.length_drop, List.length_take]
    omega
  have hv3 : v * 256 < 18446744073709551616 := by
    have : (256 : Nat) ^ 7 = 72057594037927936 := by decide
    omega
  have w0 : IntKind.u64.wrap (s[k].toNat : Int) = (s[k].toNat : Int) := IntWalk.u64_in _ (by omega)
  have w1 : IntKind.u64.wrap ((v : Int) * 256) = ((v * 256 : Nat) : Int) := by
    have c : (v : Int) * 256 = ((v * 256 : Nat) : Int) := by omega
    rw [c, IntKind.wrap_u64]; omega
  have e : v * 256 ||| s[k].toNat = s[k].toNat + 256 * v := by
    have q := Nat.two_pow_add_eq_or_of_lt (i := 8) (b := s[k].toNat) (by omega) v
    rw [Nat.mul_comm v 256]
    have p8 : (2 : Nat) ^ 8 = 256 := by decide
    rw [p8] at q
    omega
  rw [w0, w1, u64_or_nat _ _ hv3 (by omega), e, List.drop_eq_getElem_cons hlt, es, hv]
  rfl
theorem mixB_of {A B G : ByteArray} (hA : A.size = 64) (hB : B.size = 64) (hG : G.size = 64) (h : ∀ j, j < 8 → wdL G.data.toList j = wdL A.data.toList j ∨ wdL G.data.toList j = wdL B.data.toList j) : mixB A B G = true := by
  unfold mixB
  rw [decide_eq_true ⟨hA, hB, hG⟩, Bool.true_and, List.all_eq_true]
  intro j hj
  rw [List.mem_range] at hj
  rcases h j hj with q | q <;> simp [q]
/-- What Off, Boot and Get answer behind a Put, done or not. -/
theorem after_put {a : DevA} {E : DevS} {P Q : Nat → Nat} {c kl : Nat} {kv : Value} {kp : Nat → Bool} {W : World} (d : DevIs W a E) (b : Bd E c) (hc : c < 1000000) (h : Tor E P Q) (hk : KeepIs W kv kl kp) :
    Calls Try.prog 25 #[.pointer (some ⟨a.bd, 0, none⟩), kv] W fun e w' => ∃ E', e = .returned (.tuple #[]) ∧ DevIs w' a E' ∧ Gr a.all W w' ∧ Calm E' ∧ E'.n = 1 ∧ (∀ k, k < 8 → wdL (gotS E').data.toList k = P k ∨ wdL (gotS E').data.toList k = Q k) ∧ ∀ k, k < 8 → E.med k = Q k → wdL (gotS E').data.toList k = Q k := by
  refine (boot_any a E kv kl kp W d hk (fun l => by have := b.2 l; omega) (by have := b.1; omega)).mono ?_
  rintro e w' ⟨rfl, ⟨L, hL, d2⟩, g⟩
  obtain ⟨h1, h2, h3, h4⟩ := h.boot kp hL
  refine ⟨_, rfl, d2, g, h2, h3, fun k hk => ?_, fun k hk q => ?_⟩
  · rw [gotS_word h2 d2.ok.medB k hk]; exact h1 k hk
  · rw [gotS_word h2 d2.ok.medB k hk]; exact h4 k hk q

end Go.Proofs.Ytgifjnniohcacaa
