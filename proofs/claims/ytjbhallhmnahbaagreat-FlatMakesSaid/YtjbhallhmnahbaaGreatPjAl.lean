/-
  PjAl: LnA, LnB.
-/
import Derived.Test.YtjbhallhmnahbaaGreatPjAg
import Derived.Test.YtjbhallhmnahbaaGreatPjAk

set_option linter.unusedVariables false

/-
  Layer 4: has, store, PutWord.
-/
namespace Go.Proofs.YtjbhallhmnahbaaGreat
open Go.RowKit

set_option maxRecDepth 20000 in
theorem has_nil (z : Int) (w : World) : Calls Tryz.prog 88 #[.pointer none, .int .i64 z] w fun e w' => e = .returned (.bool false) ∧ w = w' := by
  by_cases h0 : 0 ≤ z
  · have hd : decide ((0 : Int) ≤ z) = true := by simpa using h0
    have hd2 : decide (z < (0 : Int)) = false := by simp; omega
    go_enter Tryz.func88, Tryz.ntmps88
    go_wp2_with fail
    refine (lines_nil _).mono ?_
    rintro e w' ⟨rfl, rfl⟩
    go_wp2_with fail
    go_ret
    exact ⟨rfl, rfl⟩
  · have hd : decide ((0 : Int) ≤ z) = false := by simpa using h0
    go_enter Tryz.func88, Tryz.ntmps88
    go_wp2_with fail
    go_ret
    exact ⟨rfl, rfl⟩
set_option maxRecDepth 20000 in
theorem has_any (a : DevA) (D : DevS) (z : Int) (w : World) (h : DevIs w a D) : Calls Tryz.prog 88 #[.pointer (some ⟨a.bd, 0, none⟩), .int .i64 z] w fun e w' => e = .returned (.bool (isLine D z)) ∧ w = w' := by
  have HL := Lib.hid (lines_any a D w h)
  unfold isLine
  generalize D.n = n at *
  clear h
  by_cases h0 : 0 ≤ z
  · have hd : decide ((0 : Int) ≤ z) = true := by simpa using h0
    have HE := Lib.hid (show decide (0 ≤ z ∧ z < (n : Int)) = decide (z < (n : Int)) by simp [h0])
    go_enter Tryz.func88, Tryz.ntmps88
    go_wp2_with fail
    refine HL.out.mono ?_
    rintro e w' ⟨rfl, rfl⟩
    go_wp2_with fail
    go_ret
    exact ⟨by first | rfl | (rw [HE.out]; rfl) | simp, rfl⟩
  · have hd : decide ((0 : Int) ≤ z) = false := by simpa using h0
    have HE := Lib.hid (show decide (0 ≤ z ∧ z < (n : Int)) = false by simp [h0])
    go_enter Tryz.func88, Tryz.ntmps88
    go_wp2_with fail
    go_ret
    exact ⟨by first | rfl | (rw [HE.out]) | simp, rfl⟩

/-! ### store -/
def finS (l : Nat) (D : DevS) : Int × DevS := if opE D (isLine D l) = 0 then (opE (opD D (isLine D l) (flushF l)) true, opD (opD D (isLine D l) (flushF l)) true fenceF) else (opE D (isLine D l), opD D (isLine D l) (flushF l))
/-- m words from the i-th on are still to be stored: what is answered, what becomes of the device. -/
def stos (l k : Nat) (f : Nat → Nat) : Nat → Nat → DevS → Int × DevS
  | 0, _, D => finS l D
  | m + 1, i, D => if opE D (isWord D ((8 * l + k + i : Nat) : Int)) = 0 then stos l k f m (i + 1) (opD D (isWord D ((8 * l + k + i : Nat) : Int)) (storeF ((8 * l + k + i : Nat) : Int) (f i))) else (opE D (isWord D ((8 * l + k + i : Nat) : Int)), opD D (isWord D ((8 * l + k + i : Nat) : Int)) (storeF ((8 * l + k + i : Nat) : Int) (f i)))
/-- How much was done, how often a line was written, at most; so many lines. -/
def Bd (D : DevS) (c : Nat) : Prop := D.cnt ≤ c ∧ ∀ l, 0 ≤ D.wear l ∧ D.wear l ≤ (c : Int)
theorem Bd.mono {D : DevS} {c c' : Nat} (h : Bd D c) (hc : c ≤ c') : Bd D c' := ⟨by have := h.1; omega, fun l => by have := h.2 l; omega⟩
theorem Bd.op {D : DevS} {c : Nat} (h : Bd D c) (t : Bool) {f : DevS → DevS} (hf : Bd (f (lit D)) (c + 1)) : Bd (opD D t f) (c + 1) := by
  unfold opD
  split
  · exact h.mono (by omega)
  · split
    · exact h.mono (by omega)
    · exact hf
theorem Bd.store {D : DevS} {c : Nat} (h : Bd D c) (z : Int) (v : Nat) (t : Bool) : Bd (opD D t (storeF z v)) (c + 1) := h.op _ ⟨by have := h.1; show D.cnt + 1 ≤ c + 1; omega, fun l => (h.mono (Nat.le_succ c)).2 l⟩
theorem Bd.flush {D : DevS} {c : Nat} (h : Bd D c) (z : Int) (t : Bool) : Bd (opD D t (flushF z)) (c + 1) := h.op _ ⟨by have := h.1; show D.cnt + 1 ≤ c + 1; omega, fun l => (h.mono (Nat.le_succ c)).2 l⟩
theorem Bd.fence {D : DevS} {c : Nat} (h : Bd D c) (t : Bool) : Bd (opD D t fenceF) (c + 1) := h.op _ ⟨by have := h.1; show D.cnt + 1 ≤ c + 1; omega, fun l => by
  have := h.2 l
  show 0 ≤ perWear (lit D) (linesOf (fluS (lit D))) l ∧ perWear (lit D) (linesOf (fluS (lit D))) l ≤ _
  unfold perWear
  have e : ∀ (p : Prop) [Decidable p], 0 ≤ (if p then D.wear l + 1 else D.wear l) ∧ (if p then D.wear l + 1 else D.wear l) ≤ ((c + 1 : Nat) : Int) := fun p _ => by split <;> omega
  exact e _⟩

set_option maxRecDepth 20000 in
set_option maxHeartbeats 2000000 in
theorem lstore_any (a : DevA) (D : DevS) (l k m b o cap c : Nat) (f : Nat → Nat) (w : World) (h : DevIs w a D) (hb : Bd D c) (hc : c < 1000000) (hl : l < 65536) (hk : k < 8) (hm : m ≤ 8) (hcap : m ≤ cap) (hmax : cap ≤ maxLen) (hn : b ∉ a.all)
    (hcell : ∀ i, i < m → w.cell? ⟨b, o + i, none⟩ = some (.int .u64 (f i : Int))) (hf : ∀ i, i < m → f i < 18446744073709551616) (hblt : b < w.heap.size) (hm0 : 0 < m) :
    Calls Tryz.prog 89 #[.pointer (some ⟨a.bd, 0, none⟩), .int .i64 (l : Int), .int .i64 (k : Int), .slice (some ⟨b, o, none⟩) m cap] w fun e w' => e = .returned (.int .i64 (stos l k f m 0 D).1) ∧ DevIs w' a (stos l k f m 0 D).2 ∧ Bd (stos l k f m 0 D).2 (c + 10) ∧ Gr a.all w w' := by
  obtain ⟨T, hT⟩ : ∃ T, stos l k f m 0 D = T := ⟨_, rfl⟩
  rw [hT]
  have HT := Lib.hid hT
  have HD := Lib.hid (And.intro h hb)
  have HC := Lib.hid (And.intro hcell (And.intro hf hn))
  unfold maxLen at hmax
  clear h hb hcell hf hT hn
  go_enter Tryz.func89, Tryz.ntmps89
  go_wp2_with fail
  go_loopw [15] (fun z wr => ∃ (i : Nat) (D' : DevS), i ≤ m ∧ z = .int .i64 (i : Int) ∧ T = stos l k f (m - i) i D' ∧ DevIs wr a D' ∧ Bd D' (c + i) ∧ Gr a.all w wr) (fun z _ => m - (intOf z).toNat)
  case atStart => exact ⟨0, D, by omega, rfl, HT.out.symm, HD.out.1, HD.out.2, Gr.refl _ _⟩
  case round =>
    clear HT HD
    obtain ⟨i, D', hi, rfl, hT, d2, b2, g2⟩ := hrel
    by_cases hlt : i < m
    · have e0 : wr.cell? ⟨b, o + i, none⟩ = some (.int .u64 (f i : Int)) := (World.cell?_of_block (w := w) (g2.block b hblt HC.out.2.2)).trans (HC.out.1 i hlt)
      have hd : decide ((i : Int) < (m : Int)) = true := by simpa using hlt
      obtain ⟨q, hq⟩ : ∃ q : Nat, q = 8 * l + k + i := ⟨_, rfl⟩
      have hq2 : (l : Int) * 8 + (k : Int) + (i : Int) = (q : Int) := by omega
      rw [show m - i = (m - i - 1) + 1 by omega] at hT
      unfold stos at hT
      rw [← hq] at hT
      have HS := Lib.hid (store_any a D' (q : Int) (f i) wr d2 (HC.out.2.1 i hlt) (by have := b2.1; omega))
      have HT := Lib.hid hT
      have HB := Lib.hid (And.intro b2 g2)
      clear d2 b2 g2 hT hq
      generalize f i = v at *
      by_cases he : opE D' (isWord D' (q : Int)) = 0
      · rw [he] at HS
        have HT := Lib.hid (HT.out.trans (if_pos he))
        clear he
        go_wp2_with fail
        refine HS.out.mono ?_
        rintro e w3 ⟨rfl, d3, g3⟩
        have HN := Lib.hid (And.intro d3 (And.intro (HB.out.1.store (q : Int) v (isWord D' (q : Int))) (HB.out.2.trans g3)))
        clear d3 g3 HS e0
        go_wp2_with fail
        go_roundw
        case rel => exact ⟨i + 1, _, by omega, by go_num, by rw [show m - (i + 1) = m - i - 1 by omega]; exact HT.out, HN.out.1, HN.out.2.1, HN.out.2.2⟩
        case measure => simp [intOf]; omega
      · have HT := Lib.hid (HT.out.trans (if_neg he))
        obtain ⟨ev, hev⟩ : ∃ ev, opE D' (isWord D' (q : Int)) = ev := ⟨_, rfl⟩
        rw [hev] at he HS HT
        have he2 : (ev == 0) = false := by simpa using he
        clear he hev
        go_wp2_with fail
        refine HS.out.mono ?_
        rintro e w3 ⟨rfl, d3, g3⟩
        have HN := Lib.hid (And.intro d3 (And.intro (HB.out.1.store (q : Int) v (isWord D' (q : Int))) (HB.out.2.trans g3)))
        clear d3 g3 HS e0
        go_wp2_with fail
        go_ret
        rw [HT.out]
        exact ⟨rfl, HN.out.1, HN.out.2.1.mono (by omega), HN.out.2.2⟩
    · obtain rfl : i = m := by omega
      rw [Nat.sub_self] at hT
      unfold stos finS at hT
      have hd : decide ((i : Int) < (i : Int)) = false := by simp
      have HS := Lib.hid (flush_any a D' (l : Int) wr d2 (by have := b2.1; omega))
      have HT := Lib.hid hT
      have HB := Lib.hid (And.intro b2 g2)
      clear d2 b2 g2 hT
      by_cases he : opE D' (isLine D' (l : Int)) = 0
      · rw [he] at HS
        have HT := Lib.hid (HT.out.trans (if_pos he))
        clear he
        go_wp2_with fail
        refine HS.out.mono ?_
        rintro e w3 ⟨rfl, d3, g3⟩
        have b3 := HB.out.1.flush (l : Int) (isLine D' (l : Int))
        have HS := Lib.hid (fence_any a _ w3 d3 (by have := b3.1; omega) (fun x => by have := b3.2 x; omega))
        have HN := Lib.hid (And.intro b3 (HB.out.2.trans g3))
        clear d3 g3 b3
        go_wp2_with fail
        refine HS.out.mono ?_
        rintro e w4 ⟨rfl, d4, g4⟩
        have HN := Lib.hid (And.intro d4 (And.intro (HN.out.1.fence true) (HN.out.2.trans g4)))
        clear d4 g4 HS
        go_wp2_with fail
        go_ret
        rw [HT.out]
        exact ⟨rfl, HN.out.1, HN.out.2.1.mono (by omega), HN.out.2.2⟩
      · have HT := Lib.hid (HT.out.trans (if_neg he))
        obtain ⟨ev, hev⟩ : ∃ ev, opE D' (isLine D' (l : Int)) = ev := ⟨_, rfl⟩
        rw [hev] at he HS HT
        have he2 : (ev == 0) = false := by simpa using he
        clear he hev
        go_wp2_with fail
        refine HS.out.mono ?_
        rintro e w3 ⟨rfl, d3, g3⟩
        have HN := Lib.hid (And.intro d3 (And.intro (HB.out.1.flush (l : Int) (isLine D' (l : Int))) (HB.out.2.trans g3)))
        clear d3 g3 HS
        go_wp2_with fail
        go_ret
        rw [HT.out]
        exact ⟨rfl, HN.out.1, HN.out.2.1.mono (by omega), HN.out.2.2⟩

end Go.Proofs.YtjbhallhmnahbaaGreat

/-
  Layer 4: PutWord, Put, Took.
-/
namespace Go.Proofs.YtjbhallhmnahbaaGreat
open Go.RowKit

def pwE (D : DevS) (z k : Int) (v : Nat) : Int × DevS := if k < 0 ∨ 7 < k then (2, D) else if isLine D z = true then stos z.toNat k.toNat (fun _ => v) 1 0 D else (3, D)
set_option maxRecDepth 20000 in
set_option maxHeartbeats 1000000 in
theorem putword_any (a : DevA) (D : DevS) (z k : Int) (v c : Nat) (w : World) (h : DevIs w a D) (hb : Bd D c) (hc : c < 1000000) (hv : v < 18446744073709551616) :
    Calls Tryz.prog 145 #[.pointer (some ⟨a.bd, 0, none⟩), .int .i64 z, .int .i64 k, .int .u64 (v : Int)] w fun e w' => e = .returned (.int .i64 (pwE D z k v).1) ∧ DevIs w' a (pwE D z k v).2 ∧ Bd (pwE D z k v).2 (c + 10) ∧ Gr a.all w w' := by
  have HD := Lib.hid (And.intro h hb)
  have HV := Lib.hid hv
  by_cases hk0 : k < 0
  · have HE := Lib.hid (show pwE D z k v = (2, D) by unfold pwE; rw [if_pos (.inl hk0)])
    have hd : decide (k < 0) = true := by simpa using hk0
    clear h hb hv hk0
    go_enter Tryz.func145, Tryz.ntmps145
    go_wp2_with fail
    go_ret
    rw [HE.out]
    exact ⟨rfl, HD.out.1, HD.out.2.mono (by omega), Gr.refl _ _⟩
  · have hd : decide (k < 0) = false := by simpa using hk0
    by_cases hk7 : 7 < k
    · have HE := Lib.hid (show pwE D z k v = (2, D) by unfold pwE; rw [if_pos (.inr hk7)])
      have hd2 : decide ((8 : Int) ≤ k) = true := by simp; omega
      clear h hb hv hk0 hk7
      go_enter Tryz.func145, Tryz.ntmps145
      go_wp2_with fail
      go_ret
      rw [HE.out]
      exact ⟨rfl, HD.out.1, HD.out.2.mono (by omega), Gr.refl _ _⟩
    · have hd2 : decide ((8 : Int) ≤ k) = false := by simp; omega
      have HH := Lib.hid (has_any a D z w h)
      cases hl : isLine D z with
      | false =>
        have HE := Lib.hid (show pwE D z k v = (3, D) by unfold pwE; rw [if_neg (by omega), hl]; rfl)
        rw [hl] at HH
        clear h hb hv hk0 hk7 hl
        go_enter Tryz.func145, Tryz.ntmps145
        go_wp2_with fail
        refine HH.out.mono ?_
        rintro e w' ⟨rfl, rfl⟩
        go_wp2_with fail
        go_ret
        rw [HE.out]
        exact ⟨rfl, HD.out.1, HD.out.2.mono (by omega), Gr.refl _ _⟩
      | true =>
        rw [hl] at HH
        have hz : 0 ≤ z ∧ z < D.n := by unfold isLine at hl; exact of_decide_eq_true hl
        obtain ⟨l, rfl⟩ := Int.eq_ofNat_of_zero_le hz.1
        obtain ⟨q, rfl⟩ := Int.eq_ofNat_of_zero_le (show 0 ≤ k by omega)
        have HE := Lib.hid (show pwE D (l : Int) (q : Int) v = stos l q (fun _ => v) 1 0 D by unfold pwE; rw [if_neg (by omega), if_pos hl, Int.toNat_natCast, Int.toNat_natCast])
        have hq8 : q < 8 := by omega
        have hl2 : l < 65536 := by have := h.ok.hi; omega
        have X := Holds.new w #[.int .u64 (v : Int)] 22
        have g1 := (Gr.refl [] w).alloc (Obj.cells #[.int .u64 (v : Int)] 22)
        have HS := Lib.hid (lstore_any a D l q 1 w.heap.size 0 1 c (fun _ => v) _ (h.gr0 g1) hb hc hl2 hq8 (by omega) (by omega) (by unfold maxLen; omega) (fun e => by have := h.lt _ e; omega) (fun i hi => by
          obtain rfl : i = 0 := by omega
          exact X.cell 0) (fun _ _ => hv) X.lt (by omega))
        have HG := Lib.hid g1
        clear h hb hv hk0 hk7 hl hz X g1
        go_enter Tryz.func145, Tryz.ntmps145
        go_wp2_with fail
        refine HH.out.mono ?_
        rintro e w' ⟨rfl, rfl⟩
        go_wp2_with fail
        refine HS.out.mono ?_
        rintro e w3 ⟨rfl, d3, b3, g3⟩
        have HN := Lib.hid (And.intro d3 (And.intro b3 (HG.out.of0.trans g3)))
        clear d3 b3 g3
        go_wp2_with fail
        go_ret
        rw [HE.out]
        exact ⟨rfl, HN.out.1, HN.out.2.1, HN.out.2.2⟩

/-! ### Put -/
theorem wdL_lt (l : List UInt8) (k : Nat) : wdL l k < 18446744073709551616 := by
  unfold wdL
  have h := getL_lt ((l.drop (8 * k)).take 8)
  have h2 : ((l.drop (8 * k)).take 8).length ≤ 8 := by simp; omega
  exact Nat.lt_of_lt_of_le h (by
    have : (256 : Nat) ^ ((l.drop (8 * k)).take 8).length ≤ 256 ^ 8 := Nat.pow_le_pow_right (by omega) h2
    exact Nat.le_trans this (by decide))
def wordsV (s : ByteArray) : Array Value := #[.int .u64 (wdL s.data.toList 0), .int .u64 (wdL s.data.toList 1), .int .u64 (wdL s.data.toList 2), .int .u64 (wdL s.data.toList 3), .int .u64 (wdL s.data.toList 4), .int .u64 (wdL s.data.toList 5), .int .u64 (wdL s.data.toList 6), .int .u64 (wdL s.data.toList 7)]
theorem wordsV_at (s : ByteArray) (i : Nat) (h : i < 8) : (wordsV s)[i]? = some (.int .u64 (wdL s.data.toList i : Int)) := by
  rcases (show i = 0 ∨ i = 1 ∨ i = 2 ∨ i = 3 ∨ i = 4 ∨ i = 5 ∨ i = 6 ∨ i = 7 by omega) with rfl | rfl | rfl | rfl | rfl | rfl | rfl | rfl <;> rfl
theorem words_ok (s : ByteArray) (w : World) (h : s.size = 64) : Calls Tryz.prog 87 #[.string s] w fun e w' => e = .returned (.tuple #[.agg (wordsV s), .int .i64 0]) ∧ Gr [] w w' :=
  (words_yes s w h).mono fun _ _ q => ⟨q.1, .ofBelow q.2⟩
def zeroV : Array Value := #[.int .u64 0, .int .u64 0, .int .u64 0, .int .u64 0, .int .u64 0, .int .u64 0, .int .u64 0, .int .u64 0]
theorem words_bad (s : ByteArray) (w : World) (hs : s.size ≤ maxLen) (h : s.size ≠ 64) : Calls Tryz.prog 87 #[.string s] w fun e w' => e = .returned (.tuple #[.agg zeroV, .int .i64 2]) ∧ Gr [] w w' :=
  (words_no s w hs h).mono fun _ _ q => ⟨q.1, .ofBelow q.2⟩
def putE (D : DevS) (z : Int) (s : ByteArray) : Int × DevS := if s.size ≠ 64 then (2, D) else if isLine D z = true then stos z.toNat 0 (wdL s.data.toList) 8 0 D else (3, D)
set_option maxRecDepth 20000 in
set_option maxHeartbeats 1000000 in
theorem lput_any (a : DevA) (D : DevS) (z : Int) (s : ByteArray) (c : Nat) (w : World) (h : DevIs w a D) (hb : Bd D c) (hc : c < 1000000) (hs : s.size ≤ maxLen) :
    Calls Tryz.prog 44 #[.pointer (some ⟨a.bd, 0, none⟩), .int .i64 z, .string s] w fun e w' => e = .returned (.int .i64 (putE D z s).1) ∧ DevIs w' a (putE D z s).2 ∧ Bd (putE D z s).2 (c + 10) ∧ Gr a.all w w' := by
  have HD := Lib.hid (And.intro h hb)
  by_cases hsz : s.size = 64
  · have HH := Lib.hid (fun W (g : Gr [] w W) => has_any a D z W (h.gr0 g))
    cases hl : isLine D z with
    | false =>
      have HE := Lib.hid (show putE D z s = (3, D) by unfold putE; rw [if_neg (by simp [hsz]), hl]; rfl)
      have HW := Lib.hid (words_ok s w hsz)
      rw [hl] at HH
      clear h hb hs hsz hl
      go_enter Tryz.func44, Tryz.ntmps44
      go_wp2_with fail
      refine HW.out.mono ?_
      rintro e w1 ⟨rfl, g1⟩
      have HG := Lib.hid (g1.alloc (Obj.cells (wordsV s) 105))
      clear g1
      unfold wordsV at *
      go_wp2_with fail
      refine (HH.out _ HG.out).mono ?_
      rintro e w' ⟨rfl, rfl⟩
      go_wp2_with fail
      go_ret
      rw [HE.out]
      exact ⟨rfl, HD.out.1.gr0 HG.out, HD.out.2.mono (by omega), HG.out.of0⟩
    | true =>
      have hz : 0 ≤ z ∧ z < D.n := by unfold isLine at hl; exact of_decide_eq_true hl
      obtain ⟨l, rfl⟩ := Int.eq_ofNat_of_zero_le hz.1
      have HE := Lib.hid (show putE D (l : Int) s = stos l 0 (wdL s.data.toList) 8 0 D by unfold putE; rw [if_neg (by simp [hsz]), if_pos hl, Int.toNat_natCast])
      have HW := Lib.hid (words_ok s w hsz)
      have HL := Lib.hid (show l < 65536 by have := h.ok.hi; omega)
      rw [hl] at HH
      clear h hb hs hsz hl hz
      go_enter Tryz.func44, Tryz.ntmps44
      go_wp2_with fail
      refine HW.out.mono ?_
      rintro e w1 ⟨rfl, g1⟩
      have X := Holds.new w1 (wordsV s) 105
      have HG := Lib.hid (g1.alloc (Obj.cells (wordsV s) 105))
      have HS := Lib.hid (lstore_any a D l 0 8 w1.heap.size 0 8 c (wdL s.data.toList) _ (HD.out.1.gr0 HG.out) HD.out.2 hc HL.out (by omega) (by omega) (by omega) (by unfold maxLen; omega) (fun e => by have := HD.out.1.lt _ e; have := g1.size; omega) (fun i hi => by
        rw [Nat.zero_add, X.cell]
        exact wordsV_at s i hi) (fun _ _ => wdL_lt _ _) X.lt (by omega))
      clear g1 X
      unfold wordsV at *
      go_wp2_with fail
      refine (HH.out _ HG.out).mono ?_
      rintro e w' ⟨rfl, rfl⟩
      go_wp2_with fail
      refine HS.out.mono ?_
      rintro e w3 ⟨rfl, d3, b3, g3⟩
      have HN := Lib.hid (And.intro d3 (And.intro b3 (HG.out.of0.trans g3)))
      clear d3 b3 g3
      go_wp2_with fail
      go_ret
      rw [HE.out]
      exact ⟨rfl, HN.out.1, HN.out.2.1, HN.out.2.2⟩
  · have HE := Lib.hid (show putE D z s = (2, D) by unfold putE; rw [if_pos hsz])
    have HW := Lib.hid (words_bad s w hs hsz)
    clear h hb hs hsz
    go_enter Tryz.func44, Tryz.ntmps44
    go_wp2_with fail
    refine HW.out.mono ?_
    rintro e w1 ⟨rfl, g1⟩
    have HG := Lib.hid (g1.alloc (Obj.cells zeroV 105))
    clear g1
    unfold zeroV at *
    go_wp2_with fail
    go_ret
    rw [HE.out]
    exact ⟨rfl, HD.out.1.gr0 HG.out, HD.out.2.mono (by omega), HG.out.of0⟩

end Go.Proofs.YtjbhallhmnahbaaGreat
