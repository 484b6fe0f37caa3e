/-
  TaAe: CrcPure, Crc, DiP, NiE, DiA, DiB.
-/
import Derived.Test.YtgleopahldpajaaGreatTaAc
import Derived.Test.YtgleopahldpajaaGreatTaAa
import Derived.Test.YtgleopahldpajaaGreatTaAd
import Derived.Test.YtgleopahldpajaaGreatTaAb
import Derived.WalkKit
import Derived.Test.YtgleopahldpajaaGreatRows
import Derived.Handy
import Derived.Lib.Hide
import Derived.Deep.QuietTactic
import Derived.BigQuiet
import Derived.Lib.AppendStr
import Derived.Deep.RegionHeld3
import Derived.Deep.CutBlock

set_option linter.unusedVariables false

/-
  Plain lemmas on the two checksums, without any program: the register as a bit vector, and as a list of bits.
-/
namespace Go.Proofs.YtgleopahldpajaaGreat

/-! ### The registers, one bit out and eight -/
def s16 (x : BitVec 16) : BitVec 16 := (x <<< 1) ^^^ (if x.msb then 0x1021#16 else 0#16)
def b16 (x : BitVec 16) (b : UInt8) : BitVec 16 := s16 (s16 (s16 (s16 (s16 (s16 (s16 (s16 (x ^^^ (BitVec.ofNat 16 b.toNat <<< 8)))))))))
def c16 (l : List UInt8) (x : BitVec 16) : BitVec 16 := l.foldl b16 x
def sum16 (l : List UInt8) : BitVec 16 := c16 l 0xFFFF#16
/-! ### Linear -/
/-! ### One to one -/
end Go.Proofs.YtgleopahldpajaaGreat

/-
  Contracts of package crc's functions.
-/
namespace Go.Proofs.YtgleopahldpajaaGreat
open Go.RowKit

def n16 (x : BitVec 16) : Nat := x.toNat
theorem n16_lt (x : BitVec 16) : n16 x < 65536 := x.isLt
theorem s16_walk (x : BitVec 16) : bits .xor .u16 (IntKind.u16.wrap ((n16 x : Int) * 2)) (IntKind.u16.wrap ((n16 x : Int) / 32768 * 4129)) = (n16 (s16 x) : Int) := by
  have hx : x.toNat < 65536 := x.isLt
  have e1 : IntKind.u16.wrap ((n16 x : Int) * 2) = ((x <<< 1).toNat : Int) := by
    rw [IntKind.wrap_u16]
    simp only [n16, BitVec.toNat_shiftLeft, Nat.shiftLeft_eq]
    omega
  have e2 : IntKind.u16.wrap ((n16 x : Int) / 32768 * 4129) = ((if x.msb then 0x1021#16 else 0#16).toNat : Int) := by
    rw [IntKind.wrap_u16]
    have hm : x.msb = decide (32768 ≤ x.toNat) := by rw [BitVec.msb_eq_decide]
    rw [hm]
    unfold n16
    by_cases h : 32768 ≤ x.toNat
    · simp only [h, decide_true, if_true]
      have : (x.toNat : Int) / 32768 = 1 := by omega
      rw [this]; rfl
    · simp only [h, decide_false]
      have : (x.toNat : Int) / 32768 = 0 := by omega
      rw [this]; rfl
  rw [e1, e2, u16_xor_nat _ _ (by have := (x <<< 1).isLt; omega) (by have := (if x.msb then 0x1021#16 else 0#16).isLt; omega), ← BitVec.toNat_xor]
  rfl
theorem b16_walk (x : BitVec 16) (b : UInt8) : bits .xor .u16 (n16 x : Int) (IntKind.u16.wrap (IntKind.u16.wrap (b.toNat : Int) * 256)) = (n16 (x ^^^ (BitVec.ofNat 16 b.toNat <<< 8)) : Int) := by
  have hb : b.toNat < 256 := b.toNat_lt
  have e : IntKind.u16.wrap (IntKind.u16.wrap (b.toNat : Int) * 256) = ((BitVec.ofNat 16 b.toNat <<< 8).toNat : Int) := by
    rw [IntKind.wrap_u16, IntKind.wrap_u16]
    simp only [BitVec.toNat_shiftLeft, BitVec.toNat_ofNat, Nat.shiftLeft_eq]
    omega
  rw [e, u16_xor_nat _ _ (n16_lt x) (by have := (BitVec.ofNat 16 b.toNat <<< 8).isLt; omega)]
  unfold n16
  rw [← BitVec.toNat_xor]

theorem c16_take (s : ByteArray) (k : Nat) (h : k < s.size) (x : BitVec 16) : c16 (s.data.toList.take (k + 1)) x = b16 (c16 (s.data.toList.take k) x) s[k] := by
  have hl : k < s.data.toList.length := by simpa using h
  unfold c16
  rw [List.take_succ_eq_append_getElem hl, List.foldl_append]
  rfl

set_option maxHeartbeats 1000000 in
theorem sum16_any (s : ByteArray) (w : World) (hs : s.size ≤ maxLen) :
    Calls Tryz.prog 158 #[.string s] w fun e w' => e = .returned (.int .u16 (n16 (sum16 s.data.toList) : Nat)) ∧ w = w' := by
  unfold maxLen at hs
  have S := s16_walk
  go_enter Tryz.func158, Tryz.ntmps158
  go_wp2
  go_loop [3, 8] (fun n i => ∃ k : Nat, k ≤ s.size ∧ i = .int .i64 k ∧ n = .int .u16 (n16 (c16 (s.data.toList.take k) 0xFFFF#16) : Nat)) (fun _ i => s.size - (intOf i).toNat)
  case atStart => exact ⟨0, by omega, rfl, rfl⟩
  case round =>
    obtain ⟨k, hk, rfl, rfl⟩ := hrel
    by_cases hlt : k < s.size
    · have HC := Lib.hid (c16_take s k hlt 0xFFFF#16)
      have B := b16_walk
      generalize c16 (List.take k s.data.toList) 0xFFFF#16 = x at *
      go_wp2
      go_rounds 9
      exact ⟨⟨k + 1, by omega, by go_num, by rw [HC.out]; rfl⟩, by simp [intOf]; omega⟩
    · have hl : s.data.toList.length = s.size := by simp
      have hf : c16 (s.data.toList.take k) 0xFFFF#16 = sum16 s.data.toList := by
        rw [List.take_of_length_le (by omega)]; rfl
      rw [hf]
      clear hf
      go_wp2
      go_ret
      exact ⟨rfl, rfl⟩

/-! ### Guarded words -/
end Go.Proofs.YtgleopahldpajaaGreat

/-
  Layer 17 (dir), pure: names, the buckets they fall into, how many fall into each.
-/
namespace Go.Proofs.YtgleopahldpajaaGreat
open Go.RowKit

/-! ### Rows as functions -/
def rowT (g : Nat → Value) (n : Nat) : Array Value := (Array.range n).map g
theorem rowT_get (g : Nat → Value) (n i : Nat) (h : i < n) : (rowT g n)[i]? = some (g i) := by
  unfold rowT
  rw [Array.getElem?_map, Array.getElem?_range]
  simp [h]
theorem rowT_set (g : Nat → Value) (n i : Nat) (v : Value) : (rowT g n).setIfInBounds i v = rowT (fun j => if j = i then v else g j) n := by
  apply Array.ext
  · simp [rowT]
  · intro j h1 h2
    have hj : j < n := by simpa [rowT] using h2
    rw [Array.getElem_setIfInBounds (by simpa [rowT] using hj)]
    by_cases e : i = j
    · subst e; simp [rowT]
    · rw [if_neg e]
      have e2 : ¬ j = i := fun q => e q.symm
      simp [rowT, e2]
theorem rowT_congr {g g' : Nat → Value} {n : Nat} (h : ∀ i, i < n → g i = g' i) : rowT g n = rowT g' n := by
  apply Array.ext
  · simp [rowT]
  · intro j h1 h2
    have hj : j < n := by simpa [rowT] using h2
    simp [rowT, h j hj]
theorem rowT_made (v : Value) (hv : Value.cells v = #[v]) (n : Nat) : (madeCells (Value.cells v) (n * 1)).toList.toArray = rowT (fun _ => v) n := by
  rw [made_one v hv]
  apply Array.ext
  · simp [rowT]
  · intro i h1 h2
    simp [rowT]

/-! ### Buckets -/
/-- A name's hash. -/
def hB (s : ByteArray) : Nat := n16 (sum16 s.data.toList)
def inB (nb i : Nat) (s : ByteArray) : Bool := decide (hB s % nb = i)
/-- How many names fall into a bucket. -/
def cntB (nb i : Nat) (N : List ByteArray) : Nat := (N.filter (inB nb i)).length
/-- What a bucket has. -/
def atB (nb i : Nat) (F : ByteArray → Option Nat) : ByteArray → Option Nat := fun s => if hB s % nb = i then F s else none
theorem cntB_cons (nb i : Nat) (s : ByteArray) (N : List ByteArray) : cntB nb i (s :: N) = if hB s % nb = i then cntB nb i N + 1 else cntB nb i N := by
  unfold cntB inB
  rw [List.filter_cons]
  by_cases h : hB s % nb = i
  · simp [h]
  · simp [h]
theorem cntB_le (nb i : Nat) (N : List ByteArray) : cntB nb i N ≤ N.length := List.length_filter_le _ _
theorem cntB_perm {N M : List ByteArray} (h : N.Perm M) (nb i : Nat) : cntB nb i N = cntB nb i M := (h.filter _).length_eq
theorem atB_upd (nb i : Nat) (F : ByteArray → Option Nat) (s : ByteArray) (v : Option Nat) : atB nb i (updT F s v) = if hB s % nb = i then updT (atB nb i F) s v else atB nb i F := by
  funext y
  unfold atB updT
  by_cases h : hB s % nb = i
  · rw [if_pos h]
    by_cases e : y = s
    · subst e; simp [h]
    · simp [e]
  · rw [if_neg h]
    by_cases e : y = s
    · subst e; simp [h]
    · simp [e]
theorem atB_some {nb i : Nat} {F : ByteArray → Option Nat} {s : ByteArray} {v : Nat} (h : atB nb i F s = some v) : hB s % nb = i ∧ F s = some v := by
  unfold atB at h
  split at h
  · rename_i c; exact ⟨c, h⟩
  · cases h
theorem atB_own (nb : Nat) (F : ByteArray → Option Nat) (s : ByteArray) : atB nb (hB s % nb) F s = F s := if_pos rfl
/-- The names of a directory, and their numbers. -/
structure NmOk (F : ByteArray → Option Nat) (N : List ByteArray) : Prop where
  nd : N.Nodup
  mem : ∀ s, s ∈ N ↔ (F s).isSome = true
  nm : ∀ s, s ∈ N → nameP s.data.toList = true
  hi : ∀ s v, F s = some v → v ≤ 65535
theorem NmOk.nil : NmOk (fun _ => none) [] := ⟨List.nodup_nil, fun s => by simp, fun s h => (by simp at h), fun s v h => by cases h⟩
/-- The list behind a Put. -/
def putN (F : ByteArray → Option Nat) (N : List ByteArray) (s : ByteArray) : List ByteArray := if (F s).isSome then N else s :: N
section
variable {F : ByteArray → Option Nat} {N M : List ByteArray}
theorem NmOk.put (h : NmOk F N) (s : ByteArray) (v : Nat) (hn : nameP s.data.toList = true) (hv : v ≤ 65535) : NmOk (updT F s (some v)) (putN F N s) := by
  unfold putN
  have hm : ∀ y u, updT F s (some v) y = some u → u ≤ 65535 := fun y u e => by
    unfold updT at e
    split at e
    · injection e with e; omega
    · exact h.hi y u e
  by_cases c : (F s).isSome
  · rw [if_pos c]
    refine ⟨h.nd, fun y => ?_, h.nm, hm⟩
    rw [h.mem y]
    unfold updT
    by_cases e : y = s
    · subst e; simp [c]
    · simp [e]
  · rw [if_neg c]
    refine ⟨List.nodup_cons.2 ⟨fun e => c ((h.mem s).1 e), h.nd⟩, fun y => ?_, fun y hy => ?_, hm⟩
    · rw [List.mem_cons, h.mem y]
      unfold updT
      by_cases e : y = s
      · subst e; simp
      · simp [e]
    · rcases List.mem_cons.1 hy with rfl | hy
      · exact hn
      · exact h.nm y hy
theorem NmOk.of_perm (h : NmOk F N) (k : N.Perm M) : NmOk F M := ⟨k.nodup_iff.1 h.nd, fun s => (k.mem_iff.symm).trans (h.mem s), fun s hs => h.nm s (k.mem_iff.2 hs), h.hi⟩
end
end Go.Proofs.YtgleopahldpajaaGreat

/-
  Maps from int to int whose elements are natural numbers: look-up and store.
-/
namespace Go.Proofs.YtgleopahldpajaaGreat
open Go.RowKit

def niEnc (c : Nat) : DataW Unit := .lit (.int .i64 (c : Int))
def niR : Value → Option (DataW Unit × List MemPlace)
  | .int .i64 (.ofNat v) => some (niEnc v, [])
  | _ => none
theorem niR_inv (v : Value) (y : DataW Unit × List MemPlace) (h : niR v = some y) : ∃ a : Nat, v = .int .i64 (a : Int) ∧ y = (niEnc a, []) := by
  unfold niR at h
  split at h
  · rename_i n
    cases h
    exact ⟨n, rfl, rfl⟩
  · cases h
noncomputable def niE : EltLaw Tryz.prog 3 Nat where
  val := fun c => .int .i64 (c : Int)
  enc := niEnc
  R := niR
  R_mk := fun _ => rfl
  R_inv := niR_inv
  enc_inj := by
    intro a b h
    unfold niEnc at h
    simp at h
    omega
  zero := 0
  zero_run := fun _ => by kernel_rfl
end Go.Proofs.YtgleopahldpajaaGreat

/-
  Layer 17 (dir): a directory in memory; the bucket of a name.
-/
namespace Go.Proofs.YtgleopahldpajaaGreat
open Go.RowKit
set_option linter.unusedVariables false

/-- The blocks of a directory: itself, its row of buckets, the buckets. -/
structure DiA where
  db : Nat
  ab : Nat
  nb : Nat
  cap : Nat
  mb : Nat → Nat
def DiA.all (A : DiA) : List Nat := A.db :: A.ab :: (List.range A.nb).map A.mb
theorem DiA.mem_mb {A : DiA} {i : Nat} (h : i < A.nb) : A.mb i ∈ A.all := List.mem_cons_of_mem _ (List.mem_cons_of_mem _ (List.mem_map.2 ⟨i, List.mem_range.2 h, rfl⟩))
/-- Buckets in memory, told by what they have. -/
structure BkD (w : World) (ab nb : Nat) (mb : Nat → Nat) (F : ByteArray → Option Nat) (N : List ByteArray) : Prop where
  lt : ab < w.heap.size
  at' : ∀ i, i < nb → w.cell? ⟨ab, i, none⟩ = some (.map (some (mb i)))
  mp : ∀ i, i < nb → MapT niE 9 w (mb i) (cntB nb i N) (atB nb i F)
  ne : ∀ i j, i < nb → j < nb → mb i = mb j → i = j
  na : ∀ i, i < nb → mb i ≠ ab
/-- A directory in memory. -/
structure DiIs (w : World) (A : DiA) (F : ByteArray → Option Nat) (N : List ByteArray) : Prop where
  hd : Holds w A.db #[.slice (some ⟨A.ab, 0, none⟩) A.nb A.cap, .int .i64 (N.length : Int)] 210
  bk : BkD w A.ab A.nb A.mb F N
  ok : NmOk F N
  nd : A.db ≠ A.ab ∧ ∀ i, i < A.nb → A.mb i ≠ A.db
  nb : 1 ≤ A.nb ∧ A.nb ≤ 65536 ∧ N.length ≤ 4 * A.nb
section
variable {w w' : World} {A : DiA} {F G : ByteArray → Option Nat} {N M : List ByteArray} {ab nb : Nat} {mb : Nat → Nat} {bs : List Nat}
theorem BkD.gr (h : BkD w ab nb mb F N) (g : Gr bs w w') (h1 : ab ∉ bs) (h2 : ∀ i, i < nb → mb i ∉ bs) : BkD w' ab nb mb F N :=
  ⟨Nat.lt_of_lt_of_le h.lt g.size, fun i hi => (World.cell?_of_block (w := w) (g.block ab h.lt h1)).trans (h.at' i hi), fun i hi => (h.mp i hi).gr g (h2 i hi), h.ne, h.na⟩
theorem BkD.gr0 (h : BkD w ab nb mb F N) (g : Gr [] w w') : BkD w' ab nb mb F N := h.gr g (by simp) (by simp)
theorem DiIs.gr (h : DiIs w A F N) (g : Gr bs w w') (hn : ∀ x ∈ A.all, x ∉ bs) : DiIs w' A F N :=
  ⟨h.hd.gr g (hn _ (by simp [DiA.all])), h.bk.gr g (hn _ (by simp [DiA.all])) fun i hi => hn _ (DiA.mem_mb hi), h.ok, h.nd, h.nb⟩
theorem DiIs.gr0 (h : DiIs w A F N) (g : Gr [] w w') : DiIs w' A F N := h.gr g (by simp)
theorem DiIs.lt (h : DiIs w A F N) : ∀ x ∈ A.all, x < w.heap.size := fun x hx => by
  rcases List.mem_cons.1 hx with rfl | hx
  · exact h.hd.lt
  · rcases List.mem_cons.1 hx with rfl | hx
    · exact h.bk.lt
    · obtain ⟨i, hi, rfl⟩ := List.mem_map.1 hx
      exact (h.bk.mp i (List.mem_range.1 hi)).lt
/-- A bucket is written: its name has a number. -/
theorem BkD.put {i0 : Nat} (h : BkD w ab nb mb F N) (g : Gr [mb i0] w w') (s : ByteArray) (v : Nat) (hi0 : i0 = hB s % nb) (h0 : i0 < nb)
    (hm : MapT niE 9 w' (mb i0) (if (atB nb i0 F s).isSome then cntB nb i0 N else cntB nb i0 N + 1) (updT (atB nb i0 F) s (some v))) : BkD w' ab nb mb (updT F s (some v)) (putN F N s) := by
  subst hi0
  refine ⟨Nat.lt_of_lt_of_le h.lt g.size, fun i hi => (World.cell?_of_block (w := w) (g.block ab h.lt fun e => h.na _ h0 (List.mem_singleton.1 e).symm)).trans (h.at' i hi), fun i hi => ?_, h.ne, h.na⟩
  rw [atB_upd]
  rw [atB_own] at hm
  by_cases c : hB s % nb = i
  · subst c
    rw [if_pos rfl]
    unfold putN
    by_cases d : (F s).isSome
    · rw [if_pos d] at hm ⊢; exact hm
    · rw [if_neg d] at hm ⊢
      rw [cntB_cons, if_pos rfl]; exact hm
  · rw [if_neg c]
    have e : cntB nb i (putN F N s) = cntB nb i N := by
      unfold putN
      split
      · rfl
      · rw [cntB_cons, if_neg c]
    rw [e]
    exact (h.mp i hi).gr g fun e => c (h.ne _ _ hi h0 (List.mem_singleton.1 e)).symm
end
theorem hB_lt (s : ByteArray) : hB s < 65536 := n16_lt _
set_option maxHeartbeats 4000000 in
set_option maxRecDepth 100000 in
/-- The bucket of a name. -/
theorem bucket_any (db ab nb cap : Nat) (cv : Value) (mb : Nat → Nat) (s : ByteArray) (w : World) (hd : Holds w db #[.slice (some ⟨ab, 0, none⟩) nb cap, cv] 210) (hb : ∀ i, i < nb → w.cell? ⟨ab, i, none⟩ = some (.map (some (mb i)))) (h1 : 1 ≤ nb) (h2 : nb ≤ 65536) (hs : s.size ≤ maxLen) :
    Calls Tryz.prog 117 #[.pointer (some ⟨db, 0, none⟩), .string s] w fun e w' => e = .returned (.map (some (mb (hB s % nb)))) ∧ Gr [] w w' := by
  obtain ⟨i, hi⟩ : ∃ i, i = hB s % nb := ⟨_, rfl⟩
  have hin : i < nb := by rw [hi]; exact Nat.mod_lt _ (by omega)
  have hlt := hB_lt s
  have HS := Lib.hid (fun W => (sum16_any s W hs).mono fun e w' q => show e = .returned (.int .u16 (hB s : Int)) ∧ w' = W from ⟨q.1, q.2.symm⟩)
  rw [← hi]
  obtain ⟨k, hk⟩ : ∃ k, k = hB s := ⟨_, rfl⟩
  rw [← hk] at HS hi hlt
  have c0 := hd.cell 0
  have u1 : IntKind.i64.wrap (k : Int) = (k : Int) := IntWalk.i64_in _ (by omega)
  have t1 : (k : Int).tmod (nb : Int) = (i : Int) := by rw [hi]; exact (Int.ofNat_tmod k nb).symm
  have u2 : IntKind.i64.wrap (i : Int) = (i : Int) := IntWalk.i64_in _ (by omega)
  have z1 : ((nb : Int) == 0) = false := by simp; omega
  have z2 : ¬ (nb : Int) = 0 := by omega
  have z3 : ¬ nb = 0 := by omega
  have l1 : (i : Int) < (nb : Int) := by omega
  have l2 : (0 : Int) ≤ (i : Int) := by omega
  have ci := hb i hin
  clear hk hi hb hs
  go_enter Tryz.func117, Tryz.ntmps117
  go_upto_region 3 with fail
  have k0 := kp_cell c0
  have ki := kp_cell ci
  have hne := kp_ne w
  have K1 := Lib.hid (fun x : Cls (Kp w) => (HS.out x.w).mono fun _ w' q => show _ ∧ Below x.w.heap.size x.w w' from ⟨q.1, q.2 ▸ Below.refl _ _⟩)
  refine wp_region_kp (by kernel_rfl) (by kernel_rfl) ?_
  repeat (go_big_quiet_step ((rename_i x; with_reducible exact kp_call x (K1.out x))))
  with_reducible refine wpQuiet_nil ?_
  rintro _ ⟨y, rfl⟩
  have gy := Gr.ofBelow (cs := []) y.h
  go_wp2_with fail
  go_ret
  exact ⟨rfl, gy⟩
end Go.Proofs.YtgleopahldpajaaGreat

/-
  Layer 17 (dir): spread: all names into so many new buckets.
-/
namespace Go.Proofs.YtgleopahldpajaaGreat
open Go.RowKit
set_option linter.unusedVariables false

theorem infoM17 : (Tryz.prog.info? 219).map (fun i => (i.zero, i.size, i.bytes)) = some (some (.map none), 1, 8) := by kernel_rfl
theorem makeM_run (n : Nat) (hn : n ≤ 65536) (W : World) :
    (Instr.makeSlice 208 (.int .i64 (n : Int)) (.int .i64 (n : Int))).run Tryz.prog W = .ok (.slice (some ⟨W.heap.size, 0, none⟩) n n) (W.alloc (.cells (rowT (fun _ => .map none) n) 219)) := by
  obtain ⟨i0, h0, hz0, hz1, hz2⟩ := info_parts infoM17
  have hbm2 : (i0.bytes : Int) * ((n : Nat) : Int) ≤ 281474976710656 := by rw [hz2]; omega
  have r := run_make (P := Tryz.prog) W 208 219 i0 _ Tryz.underlying208 h0 hz0 .i64 .i64 (n : Int) (n : Int) (by omega) (Int.le_refl _) hbm2 (by omega)
  simp only [Int.toNat_natCast, hz1] at r
  rw [r, ← rowT_made (.map none) rfl n]
/-- The names of a list, with their numbers. -/
noncomputable def onN (V : List ByteArray) (F : ByteArray → Option Nat) : ByteArray → Option Nat := fun s => @ite _ (s ∈ V) (Classical.propDecidable _) (F s) none
theorem onN_cons {F : ByteArray → Option Nat} {V : List ByteArray} {z : ByteArray} {c : Nat} (h : F z = some c) : updT (onN V F) z (some c) = onN (z :: V) F := by
  funext y
  unfold updT onN
  by_cases e : y = z
  · subst e; simp [h]
  · rw [if_neg e]
    by_cases m : y ∈ V
    · rw [if_pos m, if_pos (List.mem_cons_of_mem _ m)]
    · rw [if_neg m, if_neg fun q => (List.mem_cons.1 q).elim e m]
theorem onN_all {F : ByteArray → Option Nat} {N V : List ByteArray} (h : NmOk F N) (hV : ∀ s, s ∈ N → s ∈ V) : onN V F = F := by
  funext y
  unfold onN
  by_cases e : y ∈ V
  · rw [if_pos e]
  · rw [if_neg e]
    cases c : F y with
    | none => rfl
    | some v => exact absurd (hV y ((h.mem y).2 (by simp [c]))) e
theorem nameP_size {s : ByteArray} (h : nameP s.data.toList = true) : s.size ≤ 32 := by
  unfold nameP at h
  simp only [Bool.and_eq_true, decide_eq_true_eq] at h
  have : s.data.toList.length = s.size := rfl
  omega
/-- What was moved: the buckets below i, and of bucket i what isn't left. -/
structure MvD (N V : List ByteArray) (K i : Nat) (left : ByteArray → Bool) : Prop where
  nd : V.Nodup
  mem : ∀ s, s ∈ V ↔ s ∈ N ∧ (hB s % K < i ∨ (hB s % K = i ∧ left s = false))
/-- Between two buckets. -/
structure MvB (N V : List ByteArray) (K i : Nat) : Prop where
  nd : V.Nodup
  mem : ∀ s, s ∈ V ↔ s ∈ N ∧ hB s % K < i
section
variable {N V : List ByteArray} {K i : Nat} {left : ByteArray → Bool} {F : ByteArray → Option Nat}
theorem MvB.start (h : MvB N V K i) (ok : NmOk F N) : MvD N V K i fun z => (atB K i F z).isSome := by
  refine ⟨h.nd, fun s => (h.mem s).trans ⟨fun q => ⟨q.1, .inl q.2⟩, ?_⟩⟩
  rintro ⟨q1, q | ⟨q2, q3⟩⟩
  · exact ⟨q1, q⟩
  · have := (ok.mem s).1 q1
    unfold atB at q3
    rw [if_pos q2, this] at q3
    cases q3
theorem MvD.step (h : MvD N V K i left) (ok : NmOk F N) {z : ByteArray} {c : Nat} (hl : left z = true) (hf : atB K i F z = some c) : F z = some c ∧ z ∉ V ∧ MvD N (z :: V) K i fun y => left y && decide (y ≠ z) := by
  obtain ⟨h1, h2⟩ := atB_some hf
  have hzN := (ok.mem z).2 (by simp [h2])
  have hzV : z ∉ V := fun e => by
    rcases ((h.mem z).1 e).2 with q | ⟨_, q⟩
    · omega
    · rw [hl] at q; cases q
  refine ⟨h2, hzV, List.nodup_cons.2 ⟨hzV, h.nd⟩, fun s => ?_⟩
  rw [List.mem_cons, h.mem s]
  by_cases e : s = z
  · subst e; simp [hzN, h1]
  · simp [e]
theorem MvD.done (h : MvD N V K i left) (ok : NmOk F N) (hd : ∀ z, WfT z → left z = false) : MvB N V K (i + 1) := by
  refine ⟨h.nd, fun s => (h.mem s).trans ⟨fun q => ⟨q.1, by omega⟩, fun q => ⟨q.1, ?_⟩⟩⟩
  have h0 := nameP_size (ok.nm s q.1)
  have := hd s (by unfold WfT maxLen; omega)
  by_cases e : hB s % K = i
  · exact .inr ⟨e, this⟩
  · exact .inl (by omega)
end
theorem nodup_sub {α : Type} : ∀ {V N : List α}, V.Nodup → (∀ s, s ∈ V → s ∈ N) → V.length ≤ N.length
  | [], N, _, _ => by simp
  | x :: V, N, h, hs => by
    obtain ⟨h1, h2⟩ := List.nodup_cons.1 h
    obtain ⟨l1, l2, rfl⟩ := List.append_of_mem (hs x (List.mem_cons_self ..))
    have := nodup_sub (N := l1 ++ l2) h2 fun s hv => by
      have := hs s (List.mem_cons_of_mem _ hv)
      rw [List.mem_append, List.mem_cons] at this
      rw [List.mem_append]
      rcases this with q | q | q
      · exact .inl q
      · subst q; exact absurd hv h1
      · exact .inr q
    simp only [List.length_append, List.length_cons] at this ⊢
    omega
/-- spread at work. -/
structure SpR (w wr : World) (db ab n : Nat) (cv : Value) (mb : Nat → Nat) (F : ByteArray → Option Nat) (V : List ByteArray) : Prop where
  gr : Gr [db] w wr
  hd : Holds wr db #[.slice (some ⟨ab, 0, none⟩) n n, cv] 210
  bk : BkD wr ab n mb (onN V F) V
  lo : w.heap.size ≤ ab ∧ ∀ i, i < n → w.heap.size ≤ mb i
  db : db < w.heap.size
section
variable {w wr w2 : World} {db ab n : Nat} {cv : Value} {mb : Nat → Nat} {F : ByteArray → Option Nat} {V : List ByteArray}
theorem SpR.gr0 (h : SpR w wr db ab n cv mb F V) (g : Gr [] wr w2) : SpR w w2 db ab n cv mb F V := ⟨h.gr.next0 g, h.hd.gr0 g, h.bk.gr0 g, h.lo, h.db⟩
theorem SpR.new (h : SpR w wr db ab n cv mb F V) {r : Nat} (hr : w.heap.size ≤ r) (h1 : ab ≠ r) (h2 : ∀ i, i < n → mb i ≠ r) (g : Gr [r] wr w2) : SpR w w2 db ab n cv mb F V :=
  ⟨h.gr.nextN g fun x hx => .inr (by rw [List.mem_singleton] at hx; omega), h.hd.gr g fun e => by rw [List.mem_singleton] at e; have := h.db; omega, h.bk.gr g (fun e => h1 (List.mem_singleton.1 e)) fun i hi e => h2 i hi (List.mem_singleton.1 e), h.lo, h.db⟩
theorem SpR.put (h : SpR w wr db ab n cv mb F V) {i0 c : Nat} {z : ByteArray} (hi0 : i0 = hB z % n) (h0 : i0 < n) (hz : F z = some c) (hV : z ∉ V) (g : Gr [mb i0] wr w2)
    (hm : MapT niE 9 w2 (mb i0) (if (atB n i0 (onN V F) z).isSome then cntB n i0 V else cntB n i0 V + 1) (updT (atB n i0 (onN V F)) z (some c))) : SpR w w2 db ab n cv mb F (z :: V) := by
  have hb := h.bk.put g z c hi0 h0 hm
  rw [onN_cons hz] at hb
  have e : putN (onN V F) V z = z :: V := by unfold putN onN; rw [if_neg hV]; rfl
  rw [e] at hb
  exact ⟨h.gr.nextN g fun x hx => .inr (by rw [List.mem_singleton] at hx; have := h.lo.2 i0 h0; omega), h.hd.gr g fun e => by rw [List.mem_singleton] at e; have := h.db; have := h.lo.2 i0 h0; omega, hb, h.lo, h.db⟩
end
/-- The new buckets as far as they are made. -/
structure SpM (w w1 wr : World) (db ab n i : Nat) (cv : Value) : Prop where
  gr : Gr [db] w wr
  hd : Holds wr db #[.slice (some ⟨ab, 0, none⟩) n n, cv] 210
  row : Holds wr ab (rowT (fun j => if j < i then .map (some (w1.heap.size + j)) else .map none) n) 219
  mp : ∀ j, j < i → MapT niE 9 wr (w1.heap.size + j) 0 fun _ => none
  sz : wr.heap.size = w1.heap.size + i
  lo : w.heap.size ≤ ab ∧ ab < w1.heap.size ∧ db < w.heap.size
section
variable {w w1 wr : World} {db ab n i : Nat} {cv : Value}
theorem SpM.next (h : SpM w w1 wr db ab n i cv) (hi : i < n) : SpM w w1 ((wr.setCell ⟨ab, i, none⟩ (.map (some wr.heap.size))).alloc (.map #[] 0)) db ab n (i + 1) cv := by
  obtain ⟨l1, l2, l3⟩ := h.lo
  have hs := h.sz
  have e : (wr.setCell ⟨ab, i, none⟩ (.map (some wr.heap.size))).heap.size = wr.heap.size := by simp
  have g1 : Gr [ab] wr (wr.setCell ⟨ab, i, none⟩ (.map (some wr.heap.size))) := (Gr.refl _ _).setCell (p := ⟨ab, i, none⟩) (.inl (List.mem_singleton.2 rfl)) _
  have g2 := (Gr.refl [] (wr.setCell ⟨ab, i, none⟩ (.map (some wr.heap.size)))).alloc (Obj.map #[] 0)
  refine ⟨(h.gr.nextN g1 fun x hx => .inr (by rw [List.mem_singleton] at hx; omega)).next0 g2, (h.hd.gr g1 fun e => by rw [List.mem_singleton] at e; omega).gr0 g2, ?_, fun j hj => ?_, ?_, h.lo⟩
  · have r := (h.row.set i (.map (some wr.heap.size))).gr0 g2
    rw [rowT_set] at r
    rw [rowT_congr fun j hj => ?_]
    · exact r
    · by_cases e : j = i
      · subst e; simp [hs]
      · rw [if_neg e]
        by_cases e2 : j < i
        · rw [if_pos e2, if_pos (by omega)]
        · rw [if_neg e2, if_neg (by omega)]
  · by_cases e3 : j = i
    · subst e3
      have r := MapT.made (E := niE) (k := 9) (wr.setCell ⟨ab, j, none⟩ (.map (some wr.heap.size)))
      rw [e, hs] at r
      rw [hs]
      exact r
    · exact ((h.mp j (by omega)).gr g1 fun e => by rw [List.mem_singleton] at e; omega).gr0 g2
  · rw [World.size_alloc, e]; omega
theorem SpM.done (h : SpM w w1 wr db ab n n cv) (F : ByteArray → Option Nat) : SpR w wr db ab n cv (fun j => w1.heap.size + j) F [] := by
  obtain ⟨l1, l2, l3⟩ := h.lo
  refine ⟨h.gr, h.hd, ⟨h.row.lt, fun j hj => ?_, fun j hj => ?_, fun j k _ _ e => by omega, fun j hj => by omega⟩, ⟨l1, fun j hj => by omega⟩, l3⟩
  · rw [h.row.cell, rowT_get _ _ _ hj, if_pos hj]
  · have e : atB n j (onN [] F) = fun _ => none := by funext s; unfold atB onN; simp
    rw [e]
    exact h.mp j hj
end
end Go.Proofs.YtgleopahldpajaaGreat
