/-
  TaAd: PaP, PaL, PaN, PaO.
-/
import Derived.Test.YtgleopahldpajaaGreatTaAc
import Derived.Test.YtgleopahldpajaaGreatTaAa
import Derived.Test.YtgleopahldpajaaGreatTaAb
import Derived.Lib.Join
import Derived.Lib.Strings
import Derived.Lib.Bytealg
import Derived.Shelf.Strings.Prefix
import Derived.Shelf.Strings.IndexAnyAll
import Derived.Shelf.Strings.Search2
import Derived.Ground.NamesProg
import Derived.Laws.RangeAny
import Derived.Laws.Runes
import Derived.Laws.RangeString
import Derived.Laws.Strings3
import Derived.Deep.LoopGhost
import Derived.Lib.Hide
import Derived.WalkMore

set_option linter.unusedVariables false

/-
  Layer 18: a path's pieces, its way and its text, without the program.
-/
namespace Go.Proofs.YtgleopahldpajaaGreat

/-- May it be a name? -/
def nameP (p : List UInt8) : Bool := decide (1 ≤ p.length) && decide (p.length ≤ 32) && decide (p ≠ [46]) && decide (p ≠ [46, 46]) && p.all (fun b => decide (b ≠ 0) && decide (b ≠ 47))
/-- The pieces between slashes, c standing ahead of the first. -/
def pg (c : List UInt8) : List UInt8 → List (List UInt8)
  | [] => [c]
  | x :: r => if x = 47 then c :: pg [] r else pg (c ++ [x]) r
def keepP (p : List UInt8) : Bool := decide (p ≠ []) && decide (p ≠ [46])
def okP (p : List UInt8) : Bool := decide (p = [46, 46]) || nameP p
def partsP (s : List UInt8) : List (List UInt8) := (pg [] s).filter keepP
def lastP (s : List UInt8) : List UInt8 := ((pg [] s).getLast?).getD []
def errP (s : List UInt8) : Int := if s = [] then 13 else if 256 < s.length then 9 else if (partsP s).all okP then 0 else 18
def absP (s : List UInt8) : Bool := decide (s.head? = some 47)
def dirP (s : List UInt8) : Bool := !keepP (lastP s)
theorem pg_clean {c s : List UInt8} (h : 47 ∉ s) : pg c s = [c ++ s] := by
  induction s generalizing c with
  | nil => simp [pg]
  | cons x r ih =>
    have hx : x ≠ 47 := fun e => h (by simp [e])
    have hr : 47 ∉ r := fun e => h (by simp [e])
    rw [pg, if_neg hx, ih hr]
    simp
theorem pg_slash (c a b : List UInt8) : pg c (a ++ 47 :: b) = pg c a ++ pg [] b := by
  induction a generalizing c with
  | nil => simp [pg]
  | cons x r ih =>
    by_cases hx : x = 47
    · subst hx
      simp only [List.cons_append, pg, if_true, ih]
    · simp only [List.cons_append, pg, hx, if_false, ih]
theorem pg_cut {c a b : List UInt8} (h : 47 ∉ a) : pg c (a ++ 47 :: b) = (c ++ a) :: pg [] b := by
  rw [pg_slash, pg_clean h]; rfl
theorem pg_len (c s : List UInt8) : (pg c s).length ≤ s.length + 1 := by
  induction s generalizing c with
  | nil => simp [pg]
  | cons x r ih =>
    by_cases hx : x = 47
    · simp only [pg, hx, if_true, List.length_cons]; have := ih []; omega
    · simp only [pg, hx, if_false, List.length_cons]; have := ih (c ++ [x]); omega
theorem parts_len (s : List UInt8) : (partsP s).length ≤ s.length + 1 := Nat.le_trans (List.length_filter_le _ _) (pg_len _ _)
theorem first_cut (s : List UInt8) : 47 ∉ s ∨ ∃ a b, s = a ++ 47 :: b ∧ 47 ∉ a := by
  induction s with
  | nil => exact .inl (by simp)
  | cons c r ih =>
    by_cases hc : c = 47
    · exact .inr ⟨[], r, by simp [hc], by simp⟩
    · rcases ih with h | ⟨a, b, h1, h2⟩
      · exact .inl (by simp [h]; exact fun e => hc e.symm)
      · exact .inr ⟨c :: a, b, by simp [h1], by simp [h2]; exact fun e => hc e.symm⟩
theorem last_cut (s : List UInt8) : 47 ∉ s ∨ ∃ a b, s = a ++ 47 :: b ∧ 47 ∉ b := by
  induction s with
  | nil => exact .inl (by simp)
  | cons c r ih =>
    rcases ih with h | ⟨a, b, h1, h2⟩
    · by_cases hc : c = 47
      · exact .inr ⟨[], r, by simp [hc], h⟩
      · exact .inl (by simp [h]; exact fun e => hc e.symm)
    · exact .inr ⟨c :: a, b, by simp [h1], h2⟩
theorem suf_one (l : List UInt8) (a c : UInt8) : [a] <:+ l ++ [c] ↔ a = c := by
  rw [← List.reverse_prefix]; simp
theorem suf_two (l : List UInt8) (a b c : UInt8) : [a, b] <:+ l ++ [c] ↔ b = c ∧ [a] <:+ l := by
  rw [← List.reverse_prefix, ← List.reverse_prefix]
  simp [List.cons_prefix_cons]
/-- What Parse asks of a path's end. -/
theorem dir_eq {s : List UInt8} (h : s ≠ []) : (decide (s = [46]) || Lib.hasSuffix s [47] || Lib.hasSuffix s [47, 46]) = dirP s := by
  have e1 : Lib.hasSuffix s [47] = decide ([47] <:+ s) := by rw [Bool.eq_iff_iff]; simp [Lib.hasSuffix]
  have e2 : Lib.hasSuffix s [47, 46] = decide ([47, 46] <:+ s) := by rw [Bool.eq_iff_iff]; simp [Lib.hasSuffix]
  rw [e1, e2]
  unfold dirP
  rcases last_cut s with h1 | ⟨a, b, rfl, h2⟩
  · have hl : lastP s = s := by unfold lastP; rw [pg_clean h1]; rfl
    have n1 : ¬ [47] <:+ s := fun e => h1 (e.subset (by simp))
    have n2 : ¬ [47, 46] <:+ s := fun e => h1 (e.subset (by simp))
    rw [hl]
    simp [n1, n2, keepP, h]
  · have hl : lastP (a ++ 47 :: b) = b := by unfold lastP; rw [pg_slash, pg_clean h2]; simp
    rw [hl]
    have n0 : a ++ 47 :: b ≠ [46] := fun e => by
      have : (47 : UInt8) ∈ [(46 : UInt8)] := by rw [← e]; simp
      simp at this
    rcases List.eq_nil_or_concat b with rfl | ⟨y, c, rfl⟩
    · have n1 : [47] <:+ a ++ [(47 : UInt8)] := ⟨a, rfl⟩
      simp [n1, keepP]
    · have hc : c ≠ 47 := fun e => h2 (by simp [e])
      have hs : a ++ 47 :: (y ++ [c]) = (a ++ 47 :: y) ++ [c] := by simp
      have n1 : ¬ [47] <:+ a ++ 47 :: (y ++ [c]) := by rw [hs, suf_one]; exact fun e => hc e.symm
      have n2 : [47, 46] <:+ a ++ 47 :: (y ++ [c]) ↔ y ++ [c] = [46] := by
        rw [hs, suf_two]
        rcases List.eq_nil_or_concat y with rfl | ⟨z, d, rfl⟩
        · have : [47] <:+ a ++ [(47 : UInt8)] := ⟨a, rfl⟩
          simp [this]
          exact eq_comm
        · have hd : d ≠ 47 := fun e => h2 (by simp [e])
          have e3 : a ++ 47 :: (z ++ [d]) = (a ++ 47 :: z) ++ [d] := by simp
          simp only [List.concat_eq_append]
          rw [e3, suf_one]
          constructor
          · rintro ⟨_, q⟩; exact absurd q.symm hd
          · intro q
            have := congrArg List.length q
            simp at this
      rw [List.concat_eq_append] at n0 ⊢
      by_cases q : y ++ [c] = [46]
      · simp [keepP, q]
      · have q2 : ¬ [47, 46] <:+ a ++ 47 :: (y ++ [c]) := fun e => q (n2.1 e)
        simp only [n0, n1, q2, keepP]
        simpa using q

/-- A string, by its bytes. -/
def bsL (l : List UInt8) : ByteArray := ⟨l.toArray⟩
def sv (l : List UInt8) : Value := .string (bsL l)
theorem bsL_data (l : List UInt8) : (bsL l).data.toList = l := rfl
theorem bsL_list (l : List UInt8) : (bsL l).toList = l := by rw [Lib.toList_data]; rfl
theorem bsL_size (l : List UInt8) : (bsL l).size = l.length := rfl
theorem bsL_of {S : ByteArray} {l : List UInt8} (h : S.data.toList = l) : S = bsL l := by subst h; rfl
theorem ix_none {s : List UInt8} (h : 47 ∉ s) : Lib.indexByte s 47 = -1 := by
  induction s with
  | nil => rfl
  | cons c r ih =>
    have hc : (c == 47) = false := by simp; exact fun e => h (by simp [e])
    rw [Lib.indexByte, hc, ih (fun e => h (by simp [e]))]
    rfl
theorem ix_some {a b : List UInt8} (h : 47 ∉ a) : Lib.indexByte (a ++ 47 :: b) 47 = a.length := by
  induction a with
  | nil => rfl
  | cons c r ih =>
    have hc : (c == 47) = false := by simp; exact fun e => h (by simp [e])
    have hl : ((r.length : Int) == -1) = false := by simp
    rw [List.cons_append, Lib.indexByte, hc, ih (fun e => h (by simp [e])), hl]
    simp

end Go.Proofs.YtgleopahldpajaaGreat

/-
  Layer 18: what Go's strings package says, at this program.
-/
namespace Go.Proofs.YtgleopahldpajaaGreat
open Go.RowKit Go.Shelf

def PaL.pre_ren : Go.Shelf.Ren := ⟨fun | 99 => 77 | 206 => 135 | n => n, fun | 9 => 9 | 4 => 4 | 3 => 3 | n => n, fun | n => n⟩
theorem PaL.pre : Go.Proofs.Lays.n99 Tryz.prog PaL.pre_ren where
  mixed := by kernel_rfl
  f99 := Tryz.func77.trans (congrArg some (by kernel_rfl))
  f206 := Tryz.func135.trans (congrArg some (by kernel_rfl))
  t3 := Tryz.underlying3
  a3 := Tryz.isAgg3
  z3 := Tryz.sizeOf3
  v3 := Tryz.zeroValue3
  t4 := Tryz.underlying4
  a4 := Tryz.isAgg4
  z4 := Tryz.sizeOf4
  v4 := Tryz.zeroValue4
  t9 := Tryz.underlying9
  a9 := Tryz.isAgg9
  z9 := Tryz.sizeOf9
  v9 := Tryz.zeroValue9


def PaL.suf_ren : Go.Shelf.Ren := ⟨fun | 100 => 78 | 207 => 136 | n => n, fun | 9 => 9 | 4 => 4 | 3 => 3 | n => n, fun | n => n⟩
theorem PaL.suf : Go.Proofs.Lays.n100 Tryz.prog PaL.suf_ren where
  mixed := by kernel_rfl
  f100 := Tryz.func78.trans (congrArg some (by kernel_rfl))
  f207 := Tryz.func136.trans (congrArg some (by kernel_rfl))
  t3 := Tryz.underlying3
  a3 := Tryz.isAgg3
  z3 := Tryz.sizeOf3
  v3 := Tryz.zeroValue3
  t4 := Tryz.underlying4
  a4 := Tryz.isAgg4
  z4 := Tryz.sizeOf4
  v4 := Tryz.zeroValue4
  t9 := Tryz.underlying9
  a9 := Tryz.isAgg9
  z9 := Tryz.sizeOf9
  v9 := Tryz.zeroValue9


def PaL.any_ren : Go.Shelf.Ren := ⟨fun | 150 => 139 | 153 => 165 | 152 => 190 | 226 => 191 | 227 => 192 | 228 => 193 | 137 => 216 | 119 => 217 | 224 => 209 | 225 => 208 | 217 => 207 | 266 => 222 | n => n, fun | 9 => 9 | 4 => 4 | 3 => 3 | 5 => 5 | 21 => 21 | 117 => 275 | 116 => 274 | 0 => 0 | 46 => 240 | 124 => 295 | n => n, fun | n => n⟩
theorem PaL.any : Go.Proofs.Lays.n150 Tryz.prog PaL.any_ren where
  mixed := by kernel_rfl
  f119 := Tryz.func217.trans (congrArg some (by kernel_rfl))
  f137 := Tryz.func216.trans (congrArg some (by kernel_rfl))
  f150 := Tryz.func139.trans (congrArg some (by kernel_rfl))
  f152 := Tryz.func190.trans (congrArg some (by kernel_rfl))
  f153 := Tryz.func165.trans (congrArg some (by kernel_rfl))
  f217 := Tryz.func207.trans (congrArg some (by kernel_rfl))
  f224 := Tryz.func209.trans (congrArg some (by kernel_rfl))
  f225 := Tryz.func208.trans (congrArg some (by kernel_rfl))
  f226 := Tryz.func191.trans (congrArg some (by kernel_rfl))
  f227 := Tryz.func192.trans (congrArg some (by kernel_rfl))
  f228 := Tryz.func193.trans (congrArg some (by kernel_rfl))
  f266 := Tryz.func222.trans (congrArg some (by kernel_rfl))
  t0 := Tryz.underlying0
  a0 := Tryz.isAgg0
  z0 := Tryz.sizeOf0
  v0 := Tryz.zeroValue0
  t3 := Tryz.underlying3
  a3 := Tryz.isAgg3
  z3 := Tryz.sizeOf3
  v3 := Tryz.zeroValue3
  t4 := Tryz.underlying4
  a4 := Tryz.isAgg4
  z4 := Tryz.sizeOf4
  v4 := Tryz.zeroValue4
  t5 := Tryz.underlying5
  a5 := Tryz.isAgg5
  z5 := Tryz.sizeOf5
  v5 := Tryz.zeroValue5
  t9 := Tryz.underlying9
  a9 := Tryz.isAgg9
  z9 := Tryz.sizeOf9
  v9 := Tryz.zeroValue9
  t21 := Tryz.underlying21
  a21 := Tryz.isAgg21
  z21 := Tryz.sizeOf21
  v21 := Tryz.zeroValue21
  t46 := Tryz.underlying240
  a46 := Tryz.isAgg240
  z46 := Tryz.sizeOf240
  v46 := Tryz.zeroValue240
  t116 := Tryz.underlying274
  a116 := Tryz.isAgg274
  z116 := Tryz.sizeOf274
  t117 := Tryz.underlying275
  a117 := Tryz.isAgg275
  z117 := Tryz.sizeOf275
  v117 := Tryz.zeroValue275
  t124 := Tryz.underlying295
  a124 := Tryz.isAgg295
  z124 := Tryz.sizeOf295
  v124 := Tryz.zeroValue295


def PaL.idx_ren : Go.Shelf.Ren := ⟨fun | 219 => 178 | 217 => 207 | 225 => 208 | 224 => 209 | 267 => 210 | 266 => 222 | 314 => 223 | n => n, fun | 9 => 9 | 3 => 3 | 4 => 4 | 5 => 5 | 46 => 240 | 146 => 300 | 51 => 260 | n => n, fun | 1 => 0 | n => n⟩
theorem PaL.idx : Go.Proofs.Lays.n219 Tryz.prog PaL.idx_ren where
  mixed := by kernel_rfl
  f217 := Tryz.func207.trans (congrArg some (by kernel_rfl))
  f219 := Tryz.func178.trans (congrArg some (by kernel_rfl))
  f224 := Tryz.func209.trans (congrArg some (by kernel_rfl))
  f225 := Tryz.func208.trans (congrArg some (by kernel_rfl))
  f266 := Tryz.func222.trans (congrArg some (by kernel_rfl))
  f267 := Tryz.func210.trans (congrArg some (by kernel_rfl))
  f314 := Tryz.func223.trans (congrArg some (by kernel_rfl))
  t3 := Tryz.underlying3
  a3 := Tryz.isAgg3
  z3 := Tryz.sizeOf3
  v3 := Tryz.zeroValue3
  t4 := Tryz.underlying4
  a4 := Tryz.isAgg4
  z4 := Tryz.sizeOf4
  v4 := Tryz.zeroValue4
  t5 := Tryz.underlying5
  a5 := Tryz.isAgg5
  z5 := Tryz.sizeOf5
  v5 := Tryz.zeroValue5
  t9 := Tryz.underlying9
  a9 := Tryz.isAgg9
  z9 := Tryz.sizeOf9
  v9 := Tryz.zeroValue9
  t46 := Tryz.underlying240
  a46 := Tryz.isAgg240
  z46 := Tryz.sizeOf240
  v46 := Tryz.zeroValue240
  t51 := Tryz.underlying260
  a51 := Tryz.isAgg260
  z51 := Tryz.sizeOf260
  v51 := Tryz.zeroValue260
  t146 := Tryz.underlying300
  a146 := Tryz.isAgg300
  z146 := Tryz.sizeOf300
  v146 := Tryz.zeroValue300
  g1 := by kernel_rfl


theorem PaL.fPre : PaL.pre_ren.f 99 = 77 := by kernel_rfl
theorem PaL.fSuf : PaL.suf_ren.f 100 = 78 := by kernel_rfl
theorem PaL.fIdx : PaL.idx_ren.f 219 = 178 := by kernel_rfl
theorem PaL.fIby : PaL.any_ren.f 137 = 216 := by kernel_rfl
theorem PaL.fIan : PaL.any_ren.f 153 = 165 := by kernel_rfl
theorem PaL.fUse : PaL.any_ren.f 226 = 191 := by kernel_rfl
theorem PaL.fRun : PaL.any_ren.f 152 = 190 := by kernel_rfl
theorem PaL.h116 : (Tryz.prog.info? (PaL.any_ren.t 116)).map (fun i => (i.zero, i.size)) = some (some (.agg (Array.replicate 256 (.bool false))), 256) := by kernel_rfl

theorem pre_at (s p : List UInt8) (w : World) : Calls Tryz.prog 77 #[sv s, sv p] w fun e w' => e = .returned (.bool (Lib.hasPrefix s p)) ∧ w' = w := by
  have q := Any.strings_HasPrefix { PaL.pre with } (bsL s) (bsL p) w
  rw [PaL.fPre] at q
  exact q
theorem suf_at (s p : List UInt8) (w : World) (hs : s.length ≤ 9223372036854775807) : Calls Tryz.prog 78 #[sv s, sv p] w fun e w' => e = .returned (.bool (Lib.hasSuffix s p)) ∧ w' = w := by
  have q := Any.strings_HasSuffix { PaL.suf with } (bsL s) (bsL p) w hs
  rw [PaL.fSuf] at q
  exact q
theorem idx_at (s : List UInt8) (w : World) : Calls Tryz.prog 178 #[sv s, sv [47]] w fun e w' => e = .returned (.int .i64 (Lib.indexByte s 47)) ∧ w' = w := by
  have q := Any.stringslite_Index_one { PaL.idx with } (bsL s) 47 w
  rw [PaL.fIdx] at q
  exact q
theorem iby_at (S : ByteArray) (c : Int) (w : World) : Calls Tryz.prog 216 #[.string S, .int .u8 c] w fun e w' => e = .returned (.int .i64 (Lib.indexByte S.data.toList c.toNat.toUInt8)) ∧ w' = w := by
  have q := Any.strings_IndexByte { PaL.any with } S c w
  rw [PaL.fIby] at q
  exact q
theorem irun_at (S : ByteArray) (r : Int) (w : World) (h0 : 0 ≤ r) (h1 : r < 128) : Calls Tryz.prog 190 #[.string S, .int .i32 r] w fun e w' => e = .returned (.int .i64 (Lib.indexByte S.data.toList r.toNat.toUInt8)) ∧ w' = w := by
  have q := Any.strings_IndexRune_ascii { PaL.any with } S r w h0 h1
  rw [PaL.fRun] at q
  exact q
theorem iuse_at (n : Int) (w : World) : Calls Tryz.prog 191 #[.int .i64 n] w fun e w' => e = .returned (.bool (decide (8 < n))) ∧ w' = w := by
  have q := Any.strings_shouldUseASCIISet { PaL.any with } n w
  rw [PaL.fUse] at q
  exact q
theorem ian_long (s : List UInt8) (w : World) (h8 : 8 < s.length) (hs : s.length < 4294967281) :
    Calls Tryz.prog 165 #[sv s, sv [0, 47]] w fun e w' => e = .returned (.int .i64 (Lib.indexAny s [0, 47])) ∧ Below w.heap.size w w' := by
  have q := Any.strings_IndexAny_long { PaL.any with } (zero_of_info PaL.h116).1 (zero_of_info PaL.h116).2 (bsL s) (bsL [0, 47]) w (by decide) h8 hs (by decide) (fun j b hj => by
    have : b ∈ [(0 : UInt8), 47] := List.mem_of_getElem? hj
    simp at this
    rcases this with rfl | rfl <;> decide)
  rw [PaL.fIan] at q
  refine q.mono fun e w' ⟨h1, h2⟩ => ⟨h1, ?_⟩
  rw [h2]
  exact ((Below.refl _ _).alloc (Nat.le_refl _) _).alloc (by simp) _

end Go.Proofs.YtgleopahldpajaaGreat

/-
  Layers 17 and 18: may it be a name: what the program says (strings.ContainsAny of any bytes, for a zero byte and a slash), and the document.
-/
namespace Go.Proofs.YtgleopahldpajaaGreat
open Go.RowKit Go.Shelf

theorem decode_skip (s : ByteArray) (i : Nat) (h : i < s.size) : i + (Utf8.decode s i).2 ≤ s.size ∧ ∀ k, 1 ≤ k → k < (Utf8.decode s i).2 → 128 ≤ (s.get! (i + k)).toNat := by
  have hc : ∀ k, (decide (i + k < s.size) && ((s.get! (i + k)).toNat / 64 == 2)) = true → i + k < s.size ∧ 128 ≤ (s.get! (i + k)).toNat := fun k e => by
    simp at e
    omega
  have one : ∀ c : Nat, i + (c, 1).2 ≤ s.size ∧ ∀ k, 1 ≤ k → k < (c, 1).2 → 128 ≤ (s.get! (i + k)).toNat := fun c => ⟨h, fun k h1 h2 => absurd h2 (by show ¬ k < 1; omega)⟩
  unfold Utf8.decode
  dsimp only
  split
  · exact one _
  · split
    · rename_i q
      rw [Bool.and_eq_true] at q
      split
      · refine ⟨?_, fun k h1 h2 => ?_⟩
        · have := (hc 1 q.2).1; show i + 2 ≤ _; omega
        · have h2' : k < 2 := h2
          obtain rfl : k = 1 := by omega
          exact (hc 1 q.2).2
      · exact one _
    · split
      · rename_i q
        rw [Bool.and_eq_true, Bool.and_eq_true] at q
        split
        · refine ⟨?_, fun k h1 h2 => ?_⟩
          · have := (hc 2 q.2).1; show i + 3 ≤ _; omega
          · have h2' : k < 3 := h2
            rcases (show k = 1 ∨ k = 2 by omega) with rfl | rfl
            · exact (hc 1 q.1.2).2
            · exact (hc 2 q.2).2
        · exact one _
      · split
        · rename_i q
          rw [Bool.and_eq_true, Bool.and_eq_true, Bool.and_eq_true] at q
          split
          · refine ⟨?_, fun k h1 h2 => ?_⟩
            · have := (hc 3 q.2).1; show i + 4 ≤ _; omega
            · have h2' : k < 4 := h2
              rcases (show k = 1 ∨ k = 2 ∨ k = 3 by omega) with rfl | rfl | rfl
              · exact (hc 1 q.1.1.2).2
              · exact (hc 2 q.1.2).2
              · exact (hc 3 q.2).2
          · exact one _
        · exact one _

theorem valid_at (r : Int) (w : World) : Calls Tryz.prog 217 #[.int .i32 r] w fun e w' => e = .returned (.bool (Utf8.valid r)) ∧ w' = w := by
  rw [validRune_eq]
  unfold validRune
  by_cases h0 : 0 ≤ r
  · by_cases h1 : r < 55296
    · rw [decide_eq_true (.inl ⟨h0, h1⟩)]
      go_enter Tryz.func217, Tryz.ntmps217
      go_wp2
      go_ret
      exact ⟨rfl, rfl⟩
    · by_cases h2 : 57343 < r
      · by_cases h3 : r ≤ 1114111
        · rw [decide_eq_true (.inr ⟨h2, h3⟩)]
          go_enter Tryz.func217, Tryz.ntmps217
          go_wp2
          go_ret
          exact ⟨rfl, rfl⟩
        · rw [decide_eq_false (by omega)]
          go_enter Tryz.func217, Tryz.ntmps217
          go_wp2
          go_ret
          exact ⟨rfl, rfl⟩
      · rw [decide_eq_false (by omega)]
        go_enter Tryz.func217, Tryz.ntmps217
        go_wp2
        go_ret
        exact ⟨rfl, rfl⟩
  · rw [decide_eq_false (by omega)]
    go_enter Tryz.func217, Tryz.ntmps217
    go_wp2
    go_ret
    exact ⟨rfl, rfl⟩
/-- A reader of a string, wherever it lies. -/
def itr (w : World) (k : Nat) (s : ByteArray) (pos : Nat) : World := { w with heap := w.heap.setIfInBounds k (.stringIter s pos) }
theorem run_next_at {P : Program} (w : World) (k : Nat) (s : ByteArray) (pos : Nat) (ty : TypeId) (hk : w.heap[k]? = some (.stringIter s pos)) (h : pos < s.size) :
    (Instr.next (.pointer (some ⟨k, 0, none⟩)) true ty).run P w = .ok (.tuple #[.bool true, .int .i64 pos, .int .i32 (Utf8.decode s pos).1]) (itr w k s (pos + (Utf8.decode s pos).2)) := by
  simp only [Instr.next, getObj, setObj, Sem.run_bind, Sem.run, hk, Result.andThen, h, if_true]
  simp [goInt, itr]
theorem run_next_stop {P : Program} (w : World) (k : Nat) (s : ByteArray) (pos : Nat) (ty : TypeId) (hk : w.heap[k]? = some (.stringIter s pos)) (h : ¬ pos < s.size) :
    (Instr.next (.pointer (some ⟨k, 0, none⟩)) true ty).run P w = .ok (.tuple #[.bool false]) w := by
  simp [Instr.next, getObj, Sem.run, hk, h]
theorem itr_heap {w : World} {k : Nat} (s : ByteArray) (pos : Nat) (h : k < w.heap.size) : (itr w k s pos).heap[k]? = some (.stringIter s pos) := by
  simp [itr, h]
theorem below_itr {B : Nat} {a w : World} (h : Below B a w) {k : Nat} (hk : B ≤ k) (s : ByteArray) (pos : Nat) : Below B a (itr w k s pos) :=
  ⟨h.os, h.tape, h.output, by simpa [Go.Proofs.YtgleopahldpajaaGreat.itr] using h.size, fun j hj => by
    rw [← h.block j hj]
    simp only [Go.Proofs.YtgleopahldpajaaGreat.itr]
    rw [Array.getElem?_setIfInBounds_ne (by omega)]⟩

set_option maxHeartbeats 4000000 in
set_option maxRecDepth 1000000 in
/-- A rune that is no byte is not among a zero byte and a slash. -/
theorem run_hi (r : Int) (w : World) (h0 : 128 ≤ r) (h1 : r ≤ 2147483647) : Calls Tryz.prog 190 #[.string (bsL [0, 47]), .int .i32 r] w fun e w' => e = .returned (.int .i64 (-1)) ∧ Below w.heap.size w w' := by
  have n0 : ¬ r < 128 := by omega
  by_cases hfd : r = 65533
  · subst hfd
    go_enter Tryz.func190, Tryz.ntmps190
    go_wp2
    go_loopg [5, 6] 2 (fun g _ _ wx => ∃ i : Nat, i + g = 2 ∧ wx = w.iter (bsL [0, 47]) i)
    case atStart => exact ⟨0, rfl, rfl⟩
    case round =>
      obtain ⟨i, hig, rfl⟩ := hrel
      cases gk with
      | zero =>
        obtain rfl : i = 2 := by omega
        have hnx := fun ty => run_next_end (P := Tryz.prog) w (bsL [0, 47]) 2 ty (by decide)
        go_wp2
        go_ret
        exact ⟨rfl, (Below.refl _ w).alloc (Nat.le_refl _) _⟩
      | succ g =>
        rcases (show i = 0 ∨ i = 1 by omega) with rfl | rfl
        · have hnx := fun ty => run_next_ascii (P := Tryz.prog) w (bsL [0, 47]) 0 ty (by decide) (by decide)
          have e0 : (((bsL [0, 47])[0]'(by decide)).toNat : Int) = 0 := by rfl
          simp only [e0] at hnx
          go_wp2
          go_roundg g
          case measure => omega
          case rel => exact ⟨1, by omega, rfl⟩
        · have hnx := fun ty => run_next_ascii (P := Tryz.prog) w (bsL [0, 47]) 1 ty (by decide) (by decide)
          have e0 : (((bsL [0, 47])[1]'(by decide)).toNat : Int) = 47 := by rfl
          simp only [e0] at hnx
          go_wp2
          go_roundg g
          case measure => omega
          case rel => exact ⟨2, by omega, rfl⟩
  · cases hv : Utf8.valid r
    · go_enter Tryz.func190, Tryz.ntmps190
      go_wp2_with (go_at_call 217; refine (valid_at _ _).mono ?_; rintro e w1 ⟨rfl, hw⟩; rw [hw, hv])
      go_ret
      exact ⟨rfl, Below.refl _ _⟩
    · obtain ⟨e1, e2, e3⟩ := encode_facts r hv h0
      have z2 : (bsL [0, 47]).size = 2 := rfl
      by_cases h2 : (Utf8.encode r).size = 2
      · have u2 : IntKind.i64.wrap ((Utf8.encode r).size - 1) = 1 := by rw [h2]; rfl
        have hi : 1 < (Utf8.encode r).size := by omega
        have hi2 : (1 : Int) < (Utf8.encode r).size := by omega
        have hb : 128 ≤ ((Utf8.encode r)[1]'hi).toNat := by
          have q := e3 (by omega)
          simpa only [h2] using q
        obtain ⟨x, hx⟩ : ∃ x : UInt8, (Utf8.encode r)[1]'hi = x := ⟨_, rfl⟩
        rw [hx] at hb
        have b1 : (bsL [0, 47])[1]'(by decide) = 47 := rfl
        have et : ∀ y, Lib.indexByte ByteArray.empty.data.toList y = -1 := fun y => rfl
        have xne : ((47 : Int) == (x.toNat : Int)) = false := by simp; omega
        clear e3
        go_enter Tryz.func190, Tryz.ntmps190
        go_wp2_with (go_at_call 217; refine (valid_at _ _).mono ?_; rintro e w1 ⟨rfl, hw⟩; rw [hw, hv])
        go_wp2
        go_step3
        go_wp2
        go_loopw [9, 10] (fun i f wr => i = .int .i64 1 ∧ f = .int .i64 0 ∧ wr = w) (fun _ _ _ => 0)
        case atStart => exact ⟨rfl, rfl, rfl⟩
        case round =>
          obtain ⟨rfl, rfl, rfl⟩ := hrel
          clear hw
          have mixed : Tryz.prog.follows .mixedOrders = true := by kernel_rfl
          go_wp2
          go_step3
          go_wp2
          go_region_o
          go_wp2
          go_region_with (go_at_call 216; refine (iby_at _ _ _).mono ?_; rintro e w2 ⟨rfl, hw⟩; rw [hw, et])
          all_goals go_wp2
          all_goals simp +zetaDelta only [Exit.inBlock, Exit.then, Exit.noGoto_ret]
          all_goals (refine bodyPost_ret (results_tmp rfl _ _ _) rfl ?_)
          all_goals exact ⟨rfl, (Below.refl _ _).drew.drew⟩
      · have u2 : IntKind.i64.wrap ((Utf8.encode r).size - 1) = ((Utf8.encode r).size - 1 : Nat) := by rw [IntWalk.i64_in _ (by omega)]; omega
        have i2 : ¬ ((((Utf8.encode r).size - 1 : Nat) : Int) < 2) := by omega
        clear e3
        go_enter Tryz.func190, Tryz.ntmps190
        go_wp2_with (go_at_call 217; refine (valid_at _ _).mono ?_; rintro e w1 ⟨rfl, hw⟩; rw [hw, hv])
        go_wp2
        go_step3
        go_wp2
        go_loopw [9, 10] (fun i f wr => i = .int .i64 ((Utf8.encode r).size - 1 : Nat) ∧ f = .int .i64 0 ∧ wr = w) (fun _ _ _ => 0)
        case atStart => exact ⟨rfl, rfl, rfl⟩
        case round =>
          obtain ⟨rfl, rfl, rfl⟩ := hrel
          clear hw
          go_wp2
          try rw [Exit.noGoto_ret]
          go_ret
          exact ⟨rfl, Below.refl _ _⟩

end Go.Proofs.YtgleopahldpajaaGreat

/-
  Layers 17 and 18: strings.ContainsAny of any bytes, for a zero byte and a slash; may it be a name, by the program and by the document.
-/
namespace Go.Proofs.YtgleopahldpajaaGreat
open Go.RowKit Go.Shelf

theorem bsL_get {s : List UInt8} {j : Nat} {b : UInt8} (h : s[j]? = some b) : (bsL s).get! j = b := by
  obtain ⟨h1, h2⟩ := List.getElem?_eq_some_iff.1 h
  simp [bsL, ByteArray.get!, h1, h2]
theorem bsL_at {s : List UInt8} {j : Nat} (h : j < (bsL s).size) : s[j]? = some ((bsL s)[j]'h) := by
  have := Lib.data_getElem? (bsL s) j h
  exact this
theorem no_high {b : UInt8} (h : 128 ≤ b.toNat) : ([0, 47] : List UInt8).contains b = false := by
  have h0 : b ≠ 0 := fun e => by subst e; exact absurd h (by decide)
  have h1 : b ≠ 47 := fun e => by subst e; exact absurd h (by decide)
  simp [h0, h1]
theorem noAny_skip {s : List UInt8} {i m : Nat} (h : Lib.NoAny s [0, 47] i) (h0 : ∀ b, s[i]? = some b → 128 ≤ b.toNat) (hk : ∀ k, 1 ≤ k → k < m → 128 ≤ ((bsL s).get! (i + k)).toNat) : Lib.NoAny s [0, 47] (i + m) := fun j b hj hb => by
  by_cases h1 : j < i
  · exact h j b h1 hb
  · by_cases h2 : j = i
    · subst h2; exact no_high (h0 b hb)
    · have q := hk (j - i) (by omega) (by omega)
      rw [show i + (j - i) = j by omega, bsL_get hb] at q
      exact no_high q

set_option maxHeartbeats 8000000 in
set_option maxRecDepth 1000000 in
theorem ian_short (s : List UInt8) (w : World) (h8 : s.length ≤ 8) :
    Calls Tryz.prog 165 #[.string (bsL s), .string (bsL [0, 47])] w fun e w' => e = .returned (.int .i64 (Lib.indexAny s [0, 47])) ∧ Below w.heap.size w w' := by
  have hemp : (bsL [0, 47]).toList.isEmpty = false := by rw [bsL_list]; rfl
  have hn1 : (((bsL [0, 47]).size : Int) == 1) = false := by rfl
  have h8z : decide ((8 : Int) < ((bsL s).size : Int)) = false := decide_eq_false (by rw [bsL_size]; omega)
  go_enter Tryz.func165, Tryz.ntmps165
  go_wp2_with (go_at_call 191; refine (iuse_at _ _).mono ?_; rintro e w' ⟨rfl, hw⟩; rw [hw, h8z])
  go_loopg [9, 10] (bsL s).size (fun g _ _ wx => ∃ i : Nat, (bsL s).size ≤ i + g ∧ i ≤ (bsL s).size ∧ Below w.heap.size w wx ∧ wx.heap[w.heap.size]? = some (.stringIter (bsL s) i) ∧ Lib.NoAny s [0, 47] i)
  case atStart => exact ⟨0, by omega, by omega, (Below.refl _ w).alloc (Nat.le_refl _) _, World.iter_heap _ _ _, Lib.NoAny.zero _ _⟩
  case round =>
    obtain ⟨i, hig, hin, hB, hit, hno⟩ := hrel
    have HN : Aside (Lib.NoAny s [0, 47] i) := hno
    have HB : Aside (Below w.heap.size w wr) := hB
    clear hno hB
    by_cases hi : i < (bsL s).size
    · cases gk with
      | zero => omega
      | succ g =>
        obtain ⟨x, hx⟩ : ∃ x : UInt8, (bsL s)[i]'hi = x := ⟨_, rfl⟩
        have hxl : s[i]? = some x := by rw [← hx]; exact bsL_at hi
        have Hx : Aside (s[i]? = some x) := hxl
        have hnx := fun ty => run_next_at (P := Tryz.prog) wr w.heap.size (bsL s) i ty hit hi
        have hk : w.heap.size < wr.heap.size := (Array.getElem?_eq_some_iff.1 hit).1
        by_cases hx128 : x.toNat < 128
        · rw [decode_ascii (bsL s) i hi (by rw [hx]; exact hx128), hx] at hnx
          have hcon := Lib.contains_iff_indexByte [0, 47] x
          have hback : ((x.toNat : Int)).toNat.toUInt8 = x := by simp
          clear hxl
          cases hin2 : ([0, 47] : List UInt8).contains x
          · rw [hin2] at hcon
            have hlt : ¬ ((0 : Int) ≤ Lib.indexByte [0, 47] x) := of_decide_eq_false hcon.symm
            clear hcon
            go_wp2_with (go_at_call 190; refine (irun_at _ _ _ (by omega) (by omega)).mono ?_; rintro e w' ⟨rfl, hw⟩; rw [hw, hback, bsL_data])
            go_roundg g
            case measure => omega
            case rel => exact ⟨i + 1, by omega, by omega, below_itr HB.out (Nat.le_refl _) _ _, itr_heap _ _ hk, HN.out.succ Hx.out hin2⟩
          · rw [hin2] at hcon
            have hge : (0 : Int) ≤ Lib.indexByte [0, 47] x := of_decide_eq_true hcon.symm
            clear hcon
            go_wp2_with (go_at_call 190; refine (irun_at _ _ _ (by omega) (by omega)).mono ?_; rintro e w' ⟨rfl, hw⟩; rw [hw, hback, bsL_data])
            go_ret
            exact ⟨by rw [Lib.indexAny_hit HN.out Hx.out hin2]; rfl, below_itr HB.out (Nat.le_refl _) _ _⟩
        · obtain ⟨d1, d2⟩ := decode_high (bsL s) i hi (by rw [hx]; omega)
          have d3 := decode_le (bsL s) i
          obtain ⟨d4, d5⟩ := decode_skip (bsL s) i hi
          have HS : Aside (Lib.NoAny s [0, 47] (i + (Utf8.decode (bsL s) i).2)) := noAny_skip HN.out (fun b hb => by rw [hxl] at hb; cases hb; omega) d5
          obtain ⟨r, hr⟩ : ∃ r, r = (Utf8.decode (bsL s) i).1 := ⟨_, rfl⟩
          obtain ⟨m, hm⟩ : ∃ m, m = (Utf8.decode (bsL s) i).2 := ⟨_, rfl⟩
          rw [← hr] at d1 d3 hnx
          rw [← hm] at d2 d4 hnx HS
          clear d5 hr hm hxl
          have HR := Lib.hid (fun W => run_hi r W (by omega) (by omega))
          go_wp2_with (go_at_call 190; refine (HR.out _).mono ?_; rintro e w' ⟨rfl, hb⟩)
          go_roundg g
          case measure => omega
          case rel => exact ⟨i + m, by omega, by omega, HB.out.trans ((below_itr (Below.refl _ _) (Nat.le_refl _) _ _).trans (hb.mono (by simp [itr]; omega))), (hb.block _ (by simp [itr]; omega)).trans (itr_heap _ _ hk), HS.out⟩
    · obtain rfl : i = (bsL s).size := by omega
      have hnx := fun ty => run_next_stop (P := Tryz.prog) wr w.heap.size (bsL s) _ ty hit hi
      go_wp2
      go_ret
      exact ⟨by rw [Lib.indexAny_none (by rw [← bsL_size]; exact HN.out)]; rfl, HB.out⟩

theorem any_all (s : List UInt8) : decide (0 ≤ Lib.indexAny s [0, 47]) = !(s.all fun b => decide (b ≠ 0) && decide (b ≠ 47)) := by
  induction s with
  | nil => rfl
  | cons b r ih =>
    have hge := Lib.indexAny_ge [0, 47] r
    rw [Lib.indexAny, List.all_cons]
    by_cases h0 : b = 0
    · subst h0; rfl
    · by_cases h1 : b = 47
      · subst h1; rfl
      · have hc : ([0, 47] : List UInt8).contains b = false := by simp [h0, h1]
        rw [hc, if_neg (by simp)]
        have hd : (decide (b ≠ 0) && decide (b ≠ 47)) = true := by simp [h0, h1]
        rw [hd, Bool.true_and, ← ih]
        by_cases hm : Lib.indexAny r [0, 47] = -1
        · rw [hm]; rfl
        · rw [if_neg (by simpa using hm)]
          exact decide_eq_decide.2 (by omega)
theorem ian_at (s : List UInt8) (w : World) (hs : s.length < 4294967281) :
    Calls Tryz.prog 165 #[.string (bsL s), .string (bsL [0, 47])] w fun e w' => e = .returned (.int .i64 (Lib.indexAny s [0, 47])) ∧ Below w.heap.size w w' := by
  by_cases h : s.length ≤ 8
  · exact ian_short s w h
  · exact ian_long s w (by omega) hs
theorem has_at (s : List UInt8) (w : World) (hs : s.length < 4294967281) :
    Calls Tryz.prog 139 #[.string (bsL s), .string (bsL [0, 47])] w fun e w' => e = .returned (.bool (!(s.all fun b => decide (b ≠ 0) && decide (b ≠ 47)))) ∧ Below w.heap.size w w' := by
  rw [← any_all]
  have HI := Lib.hid (fun W => ian_at s W hs)
  go_enter Tryz.func139, Tryz.ntmps139
  go_wp2_with (go_at_call 165; refine (HI.out _).mono ?_; rintro e w' ⟨rfl, hb⟩)
  go_ret
  exact ⟨rfl, hb⟩
theorem nameP_eq {s : List UInt8} (h0 : s ≠ []) (h1 : ¬ 32 < s.length) (h2 : s ≠ [46]) (h3 : s ≠ [46, 46]) : nameP s = s.all fun b => decide (b ≠ 0) && decide (b ≠ 47) := by
  have : 1 ≤ s.length := by cases s with | nil => exact absurd rfl h0 | cons _ _ => simp
  unfold nameP
  rw [decide_eq_true this, decide_eq_true (by omega : s.length ≤ 32), decide_eq_true h2, decide_eq_true h3]
  rfl
theorem nameP_no {s : List UInt8} (h : s = [] ∨ 32 < s.length ∨ s = [46] ∨ s = [46, 46]) : nameP s = false := by
  rcases h with rfl | h | rfl | rfl
  · rfl
  · have : decide (s.length ≤ 32) = false := decide_eq_false (by omega)
    unfold nameP
    rw [this]
    simp
  · rfl
  · rfl
/-- What a name's check says. -/
def nmE (s : List UInt8) : Int := if nameP s then 0 else 18

set_option maxHeartbeats 2000000 in
set_option maxRecDepth 1000000 in
theorem dname_at (s : List UInt8) (w : World) : Calls Tryz.prog 80 #[.string (bsL s)] w fun e w' => e = .returned (.int .i64 (nmE s)) ∧ Below w.heap.size w w' := by
  by_cases h0 : s = []
  · subst h0
    have hl := bsL_list []
    have hz : (bsL []).size = 0 := rfl
    go_enter Tryz.func80, Tryz.ntmps80
    go_wp2
    go_ret
    exact ⟨rfl, Below.refl _ _⟩
  have hl := bsL_list s
  have hz := bsL_size s
  by_cases h1 : 32 < s.length
  · have hE : nmE s = 18 := by unfold nmE; rw [nameP_no (.inr (.inl h1))]; rfl
    have i1 : (32 : Int) < ((bsL s).size : Int) := by omega
    rw [hE]
    go_enter Tryz.func80, Tryz.ntmps80
    go_wp2
    go_ret
    exact ⟨rfl, Below.refl _ _⟩
  have i1 : ¬ ((32 : Int) < ((bsL s).size : Int)) := by omega
  by_cases h2 : s = [46]
  · subst h2
    have hz : (bsL [46]).size = 1 := rfl
    go_enter Tryz.func80, Tryz.ntmps80
    go_wp2
    go_ret
    exact ⟨rfl, Below.refl _ _⟩
  by_cases h3 : s = [46, 46]
  · subst h3
    have hz : (bsL [46, 46]).size = 2 := rfl
    go_enter Tryz.func80, Tryz.ntmps80
    go_wp2
    go_ret
    exact ⟨rfl, Below.refl _ _⟩
  have hE : nmE s = if (s.all fun b => decide (b ≠ 0) && decide (b ≠ 47)) then 0 else 18 := by unfold nmE; rw [nameP_eq h0 h1 h2 h3]
  rw [hE]
  have HI := Lib.hid (fun W => has_at s W (by omega))
  have f0 : s.isEmpty = false := by simpa using h0
  have f1 : decide ((32 : Int) < (s.length : Int)) = false := decide_eq_false (by omega)
  have f2 : (s == [46]) = false := by simpa using h2
  have f3 : (s == [46, 46]) = false := by simpa using h3
  obtain ⟨q, hq⟩ : ∃ q, q = s.all fun b => decide (b ≠ 0) && decide (b ≠ 47) := ⟨_, rfl⟩
  rw [← hq] at HI ⊢
  clear hq hE
  cases q
  all_goals
    go_enter Tryz.func80, Tryz.ntmps80
    go_wp2_with (go_at_call 139; refine (HI.out _).mono ?_; rintro e w' ⟨rfl, hb⟩)
    go_ret
    exact ⟨rfl, hb⟩

end Go.Proofs.YtgleopahldpajaaGreat
