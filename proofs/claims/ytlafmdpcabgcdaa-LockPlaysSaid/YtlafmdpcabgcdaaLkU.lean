/-
  Layer 24: Has.
-/
import Derived.Test.YtlafmdpcabgcdaaLkT
import Derived.Test.YtlafmdpcabgcdaaLkK
import Derived.Test.YtlafmdpcabgcdaaLkF
import Derived.Test.YtlafmdpcabgcdaaLkN
namespace Go.Proofs.Ytlafmdpcabgcdaa
open Go.RowKit

/-- Each lock that is held is a number. -/
def WfH (S : LkS) : Prop := ∀ x c, S.H x = some c → WfZ x
/-- As far as the range over the holders has come. -/
structure HasR (w wr : World) (a : LkA) (S : LkS) (m c : Nat) (g : Nat) (v : Value) (L : List Int) (left : Int → Bool) : Prop where
  ran : RanZ clE 3 wr a.bm w.heap.size m S.H left g
  own : wr.ownsRow (w.heap.size + 1) 3 1 v L.length (zv L)
  gr : Gr [] w wr
  size : w.heap.size + 1 ≤ wr.heap.size
  nd : L.Nodup
  mem : ∀ z, z ∈ L ↔ S.H z = some c ∧ left z = false
  few : L.length + g ≤ m
theorem RanZ.cnt_le {P : Program} {k e : TypeId} {α : Type} {E : EltLaw P e α} {w : World} {b r n : Nat} {f : Int → Option α} {left : Int → Bool} {cnt : Nat} (h : RanZ E k w b r n f left cnt) : cnt ≤ n := by
  obtain ⟨D, L, ⟨es, clock, since, seen, c0, q1, q2, q3, q4, q5, q6, q7, q8, q9⟩, rest⟩ := h
  rw [← q7]
  unfold leftOf
  exact Nat.le_trans (Array.size_filter_le ..) q3
section
variable {w wr w1 w2 w3 : World} {a : LkA} {S : LkS} {m c g g' : Nat} {v v' : Value} {L : List Int} {left : Int → Bool} {z : Int} {d : Nat}
theorem HasR.own1 (Q : HasR w wr a S m c g v L left) (G1 : Gr [w.heap.size] wr w1) : w1.ownsRow (w.heap.size + 1) 3 1 v L.length (zv L) :=
  own_gr Q.own G1 fun b hb e => by rw [List.mem_singleton] at e; have := (Q.own.lt b hb).1; omega
theorem HasR.skip (Q : HasR w wr a S m c g v L left) (hf : S.H z = some d) (hd : d ≠ c) (R1 : RanZ clE 3 w1 a.bm w.heap.size m S.H (fun y => left y && !decide (y = z)) g') (hlt : g' < g) (G1 : Gr [w.heap.size] wr w1) : HasR w w1 a S m c g' v L (fun y => left y && !decide (y = z)) := by
  refine ⟨R1, Q.own1 G1, Q.gr.nextN G1 (fun b hb => by rw [List.mem_singleton] at hb; subst hb; exact .inr (Nat.le_refl _)), Nat.le_trans Q.size G1.size, Q.nd, fun y => ?_, by have := Q.few; omega⟩
  rw [Q.mem y]
  by_cases e : y = z
  · subst e
    rw [hf]
    constructor
    · rintro ⟨q, _⟩; injection q with q; exact absurd q hd
    · rintro ⟨q, _⟩; injection q with q; exact absurd q hd
  · simp [e]
theorem HasR.take {o : Obj} (Q : HasR w wr a S m c g v L left) (hf : S.H z = some c) (hl : left z = true) (hb : a.bm < w.heap.size) (R1 : RanZ clE 3 w1 a.bm w.heap.size m S.H (fun y => left y && !decide (y = z)) g') (hlt : g' < g) (G1 : Gr [w.heap.size] wr w1)
    (hg : (w1.alloc o).grownBy w3 v.ownBlock) (ho : w3.ownsRow (w.heap.size + 1) 3 1 v' (L.length + 1) (zv L ++ [.int .i64 z])) : HasR w w3 a S m c g' v' (L ++ [z]) (fun y => left y && !decide (y = z)) := by
  have hown : ∀ k, v.ownBlock = some k → w.heap.size + 1 ≤ k := fun k hk => (Q.own.lt k hk).1
  have g3 := gr_grownL hg
  have G2 : Gr [] w1 (w1.alloc o) := (Gr.refl [] w1).alloc o
  refine ⟨(R1.gr0 G2).gr g3 (fun e => ?_) (fun e => ?_), ?_, ?_, Nat.le_trans Q.size (Nat.le_trans G1.size (Nat.le_trans G2.size g3.size)), ?_, fun y => ?_, ?_⟩
  · have := hown _ (by simpa using e); omega
  · have := hown _ (by simpa using e); omega
  · rw [List.length_append, zv_snoc]; exact ho
  · exact ((Q.gr.nextN G1 (fun b hb => by rw [List.mem_singleton] at hb; subst hb; exact .inr (Nat.le_refl _))).next0 G2).nextN g3 (fun b hb => .inr (by have := hown b (by simpa using hb); omega))
  · refine List.nodup_append.2 ⟨Q.nd, by simp, fun y hy x hx e => ?_⟩
    rw [List.mem_singleton] at hx
    subst hx
    subst e
    have := ((Q.mem y).1 hy).2
    rw [hl] at this; cases this
  · rw [List.mem_append, List.mem_singleton, Q.mem y]
    by_cases e : y = z
    · subst e; simp [hf]
    · simp [e]
  · have := Q.few; rw [List.length_append]; simp; omega
end
set_option maxRecDepth 100000 in
set_option maxHeartbeats 8000000 in
/-- What a client has, rising. -/
theorem has_at (a : LkA) (n m : Nat) (vs : Nat → Value) (S : LkS) (c : Nat) (w : World) (h : LkIs w a n m vs S) (hc : c < n) (hw : WfH S) (hm : m ≤ 100000) :
    Calls Try.prog 15 #[.pointer (some ⟨a.b, 0, none⟩), .int .i64 c] w fun e w' => ∃ v l, e = .returned v ∧ Rise l ∧ (∀ z, z ∈ l ↔ S.H z = some c) ∧ SlZ w' v l ∧ Gr [] w w' ∧ ∀ k, v.ownBlock = some k → w.heap.size ≤ k := by
  obtain ⟨i0, hi, hz0, hz1, hz2⟩ := info_parts infoInt8
  have undInt := Try.underlying3
  have undMap : Try.prog.underlying 53 = some (.map 3 3) := Try.underlying53
  have HC := Lib.hid (check_at a n m vs S c w h)
  have hk : chkE n c = 0 := by unfold chkE; rw [if_pos (by omega)]
  rw [hk] at HC
  have c0 := h.c0
  have H := Lib.hid h
  have hbm := h.map.lt
  have HW := Lib.hid hw
  clear h hk
  go_enter Try.func15, Try.ntmps15
  go_wp2_with (first
    | (go_at_call 19; refine HC.out.mono ?_; rintro e w' ⟨rfl, hw⟩; rw [hw])
    | (at_range; refine wp_rangeZ rfl _ rfl rfl H.out.map undInt undMap ?_; intro w2 cnt R2 G2 hs2))
  have F0 : HasR w w2 a S m c cnt (.slice none 0 0) [] (fun z => (S.H z).isSome) := by
    refine ⟨R2, World.ownsRow_nil _ _ _ _, G2, by omega, List.nodup_nil, fun x => ⟨(fun e => by cases e), fun e => ?_⟩, by have := R2.cnt_le; simpa using this⟩
    have h2 := e.2
    simp only [e.1] at h2
    cases h2
  clear R2 G2 hs2 c0
  go_frame
  go_loopg [5] cnt (fun g v wr => ∃ L left, HasR w wr a S m c g v L left)
  case atStart => exact ⟨_, _, F0⟩
  case round =>
    clear F0
    obtain ⟨L, left, Q⟩ := hrel
    have HQ := Lib.hid Q
    clear Q
    go_wp2_with (at_next; refine wp_nextZ rfl _ rfl rfl HQ.out.ran undInt ?_ ?_)
    · intro hdone
      have HD := Lib.hid hdone
      have hlen : L.length < 4611686018427387904 := by have := HQ.out.few; omega
      have HS := Lib.hid (sort_row HQ.out.own hlen)
      have HM := Lib.hid (show ∀ z, z ∈ srt L ↔ S.H z = some c from fun z => by
        rw [srt_mem, HQ.out.mem z]
        exact ⟨fun e => e.1, fun e => ⟨e, HD.out z (HW.out z c e)⟩⟩)
      clear hdone hlen
      go_wp2_with fail
      refine HS.out.mono ?_
      rintro e w3 ⟨rfl, ho3, hg3⟩
      have HR := Lib.hid (And.intro ho3 hg3)
      clear ho3 hg3
      go_wp2_with fail
      go_ret
      refine ⟨_, _, rfl, srt_rise HQ.out.nd, HM.out, own_slz HR.out.1, ?_, fun k hk => ?_⟩
      · exact HQ.out.gr.nextN (gr_grownL HR.out.2) (fun b hb => .inr (by have := (HQ.out.own.lt b (by simpa using hb)).1; omega))
      · have := (HQ.out.own.lt k hk).1; omega
    · intro z d
      intro w1 cnt' hz hl hf R1 hlt G1 hs1 hen
      have HF := Lib.hid (And.intro hf (And.intro hl (And.intro R1 (And.intro G1 hlt))))
      have hlen : L.length ≤ 100000 := by have := HQ.out.few; omega
      have hsz := Nat.le_trans HQ.out.size G1.size
      have he2 : (Instr.entry (.pointer (some ⟨w.heap.size, 0, none⟩))).run Try.prog w1 = .ok (.tuple #[.int .i64 z, .int .i64 (d : Int)]) w1 := hen
      clear hf hl R1 G1 hlt hz hs1 hen
      by_cases hdc : d = c
      · subst hdc
        have b1 : ((d : Int) == (d : Int)) = true := by simp
        have hown1 := HQ.out.own1 HF.out.2.2.2.1
        have HA5 := Lib.hid (hown1.alloc (Obj.cells #[.int .i64 z] 3))
        have HN5 := Lib.hid (Go.Proofs.Ytlafmdpcabgcdaa.Holds.new w1 #[.int .i64 z] 3)
        have one5 : ∀ u ∈ [Value.int .i64 z], u.oneCell' = true := by simp [Value.oneCell']
        clear hown1
        go_wp2_with (at_builtin; refine wpList_append_own _ rfl _ _ 32 rfl (w.heap.size + 1) 3 i0 _ 1 8 Try.underlying32 hi hz0 hz1 hz2 rfl (by decide) _ _ _ rfl HA5.out ⟨w1.heap.size, 0, none⟩ 1 1 [.int .i64 z] rfl rfl (World.news_of_block HN5.out) one5 (by unfold maxLen; omega) (by omega) (by rw [World.size_alloc]; omega) ?_)
        intro v' w3 hown3 hgrow _
        have HN := Lib.hid (HQ.out.take HF.out.1 HF.out.2.1 hbm HF.out.2.2.1 HF.out.2.2.2.2 HF.out.2.2.2.1 hgrow hown3)
        clear hown3 hgrow
        go_wp2_with fail
        go_roundg cnt'
        case measure => exact HF.out.2.2.2.2
        case rel => exact ⟨_, _, HN.out⟩
      · have b1 : ((d : Int) == (c : Int)) = false := by rw [beq_eq_false_iff_ne]; omega
        have HN := Lib.hid (HQ.out.skip HF.out.1 hdc HF.out.2.2.1 HF.out.2.2.2.2 HF.out.2.2.2.1)
        clear hdc
        go_wp2_with fail
        go_roundg cnt'
        case measure => exact HF.out.2.2.2.2
        case rel => exact ⟨_, _, HN.out⟩
end Go.Proofs.Ytlafmdpcabgcdaa
