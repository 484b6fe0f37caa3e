/-
  The reference of layer 3: Pending, New.
-/
import Derived.Test.YtphaaebbofgdnaaPmRd
namespace Go.Proofs.Ytphaaebbofgdnaa
open Go.RowKit

structure Pnd (w1 wr : World) (R : RefC) (v : Value) (M : List Nat) (k : Nat) : Prop where
  own : wr.ownsRow w1.heap.size 3 1 v M.length (M.map iW)
  gr : Gr [] w1 wr
  nil : v = .slice none 0 0 ∨ M ≠ []
  srt : M.Pairwise (· < ·)
  mem : ∀ x, x ∈ M ↔ x < k ∧ (R.ws x).t = true
theorem Pnd.skip {w1 wr : World} {R : RefC} {v : Value} {M : List Nat} {k : Nat} (Q : Pnd w1 wr R v M k) (h : (R.ws k).t = false) : Pnd w1 wr R v M (k + 1) := by
  refine ⟨Q.own, Q.gr, Q.nil, Q.srt, fun x => ?_⟩
  rw [Q.mem x]
  constructor
  · rintro ⟨h1, h2⟩; exact ⟨by omega, h2⟩
  · rintro ⟨h1, h2⟩
    by_cases e : x = k
    · subst e; rw [h] at h2; cases h2
    · exact ⟨by omega, h2⟩
theorem Pnd.take {w1 wr w2 w3 : World} {R : RefC} {v v' : Value} {M : List Nat} {k : Nat} (Q : Pnd w1 wr R v M k) (h : (R.ws k).t = true) (g2 : Gr [] wr w2) (hg : w2.grownBy w3 v.ownBlock) (ho : w3.ownsRow w1.heap.size 3 1 v' (M.length + 1) (M.map iW ++ [iW k])) :
    Pnd w1 w3 R v' (M ++ [k]) (k + 1) := by
  refine ⟨by rw [List.length_append, List.map_append]; exact ho, (Q.gr.next0 g2).grown hg (fun k hk => .inr (Q.own.lt k hk).1), .inr (by simp), ?_, fun y => ?_⟩
  · rw [List.pairwise_append]
    refine ⟨Q.srt, by simp, fun y hy z hz => ?_⟩
    rw [List.mem_singleton] at hz
    subst hz
    exact ((Q.mem y).1 hy).1
  · rw [List.mem_append, List.mem_singleton, Q.mem y]
    constructor
    · rintro (⟨h1, h2⟩ | rfl)
      · exact ⟨by omega, h2⟩
      · exact ⟨by omega, h⟩
    · rintro ⟨h1, h2⟩
      by_cases e : y = k
      · exact .inr e
      · exact .inl ⟨by omega, h2⟩
theorem sorted_len (N : Nat) (M : List Nat) (h : M.Pairwise (· < ·)) (hb : ∀ x ∈ M, x < N) : M.length ≤ N := nodup_len N M (h.imp fun {x y} h => by omega) hb

set_option maxRecDepth 20000 in
set_option maxHeartbeats 2000000 in
theorem rpending_any (r : RefA) (R : RefC) (w : World) (h : RefRow w r R) :
    Calls Try.prog 48 #[.pointer (some ⟨r.rd, 0, none⟩)] w fun e w' => ∃ (v : Value) (M : List Nat), e = .returned v ∧ M.Pairwise (· < ·) ∧ (∀ x, x ∈ M ↔ x < 8 * R.n ∧ (R.ws x).t = true) ∧ w'.ownsRow w.heap.size 3 1 v M.length (M.map iW) ∧ Gr [] w w' := by
  obtain ⟨i0, hi, hz0, hz1, hz2⟩ := info_parts infoI64
  have hn := h.hi
  obtain ⟨n, hn2⟩ : ∃ n, n = R.n := ⟨_, rfl⟩
  rw [← hn2] at hn
  have HN2 := Lib.hid hn2
  have H := Lib.hid h
  clear h hn2
  go_enter Try.func48, Try.ntmps48
  go_wp2_with fail
  go_loopw [3, 4] (fun v z wr => ∃ (k : Nat) (M : List Nat), k ≤ 8 * n ∧ z = .int .i64 (k : Int) ∧ Pnd w wr R v M k) (fun _ z _ => 8 * n - (intOf z).toNat)
  case atStart => exact ⟨0, [], by omega, rfl, World.ownsRow_nil _ _ _ _, Gr.refl _ _, .inl rfl, List.Pairwise.nil, fun x => ⟨(fun e => by cases e), fun ⟨h, _⟩ => by omega⟩⟩
  case round =>
    obtain ⟨k, M, hk, rfl, Q⟩ := hrel
    have R2 := H.out.gr0 Q.gr
    have k0 := R2.c0
    rw [← HN2.out] at k0
    by_cases hlt : k < 8 * n
    · have hib : (k : Int) < 8 * (n : Int) := by omega
      have hi0 : (0 : Int) ≤ (k : Int) := by omega
      have hd : decide ((k : Int) < 8 * (n : Int)) = true := by simp; omega
      have m1 := R2.wt (i := k) (by rw [← HN2.out]; exact hlt)
      cases ht : (R.ws k).t with
      | false =>
        rw [ht] at m1
        have HNX := Lib.hid (Q.skip ht)
        clear Q R2 ht
        go_wp2_with fail
        go_roundw
        case rel => exact ⟨k + 1, M, by omega, by go_num, HNX.out⟩
        case measure => simp [intOf]; omega
      | true =>
        rw [ht] at m1
        have HT := Lib.hid ht
        have hown := Q.own
        have hml : M.length ≤ 65536 := by
          have := sorted_len (8 * n) M Q.srt (fun x hx => by have := ((Q.mem x).1 hx).1; omega)
          omega
        have hsz := Q.gr.size
        have HQ := Lib.hid Q
        clear Q R2 ht
        go_wp2_with (at_builtin; refine wpList_append_own _ rfl _ _ 43 rfl w.heap.size 3 i0 (.int .i64 0) 1 8 Try.underlying43 hi hz0 hz1 hz2 rfl (by decide) _ _ _ rfl (hown.alloc _) ⟨wr.heap.size, 0, none⟩ 1 1 [.int .i64 (k : Int)] rfl rfl ?c1 ?c2 ?c3 ?c4 ?c5 ?_)
        case c1 =>
          intro a u ha
          match a, ha with
          | 0, ha => simp at ha; subst ha; simp [Addr.add]
        case c2 => intro u hu; simp at hu; subst hu; rfl
        case c3 => unfold maxLen; omega
        case c4 => omega
        case c5 => simp; omega
        intro v' w3 hown3 hgrow _
        have HNX := Lib.hid (HQ.out.take HT.out ((Gr.refl [] wr).alloc _) hgrow hown3)
        clear hown3 hgrow hown
        go_wp2_with fail
        go_roundw
        case rel => exact ⟨k + 1, _, by omega, by go_num, HNX.out⟩
        case measure => simp [intOf]; omega
    · obtain rfl : k = 8 * n := by omega
      have HQ := Lib.hid Q
      have hd : decide (((8 * n : Nat) : Int) < 8 * (n : Int)) = false := by simp
      clear Q R2
      go_wp2_with fail
      go_ret
      exact ⟨_, M, rfl, HQ.out.srt, (fun x => by rw [← HN2.out]; exact HQ.out.mem x), HQ.out.own, HQ.out.gr⟩

/-! ### New -/
theorem infoW : (Try.prog.info? 95).map (fun i => (i.zero, i.size, i.bytes)) = some (some (.agg #[.int .u64 0, .bool false, .int .u64 0, .bool false]), 4, 32) := by kernel_rfl
def zeroW : Nat → WordS := fun _ => ⟨0, false, 0, false⟩
theorem zeroW_row (n : Nat) : (madeCells (Value.cells (.agg #[.int .u64 0, .bool false, .int .u64 0, .bool false])) (n * 4)).toList.toArray = rowOf (wcell zeroW) (4 * n) := by
  apply Array.ext
  · simp [rowOf, madeCells]; omega
  · intro i h1 h2
    have h4 : i % 4 = 0 ∨ i % 4 = 1 ∨ i % 4 = 2 ∨ i % 4 = 3 := by omega
    simp only [rowOf, madeCells, Value.cells]
    rcases h4 with h | h | h | h <;> simp [wcell, zeroW, h]
theorem makeW_run (n : Nat) (hn : n ≤ 8192) (W : World) :
    (Instr.makeSlice 71 (.int .i64 (8 * (n : Int))) (.int .i64 (8 * (n : Int)))).run Try.prog W = .ok (.slice (some ⟨W.heap.size, 0, none⟩) (8 * n) (8 * n)) (W.alloc (.cells (rowOf (wcell zeroW) (4 * (8 * n))) 95)) := by
  obtain ⟨i0, h0, hz0, hz1, hz2⟩ := info_parts infoW
  have hb : i0.bytes * (8 * n) ≤ 32 * 65536 := Nat.mul_le_mul (by omega) (by omega)
  have e : 8 * (n : Int) = ((8 * n : Nat) : Int) := by omega
  rw [e]
  have hbm2 : (i0.bytes : Int) * ((8 * n : Nat) : Int) ≤ 281474976710656 := by
    have q : ((i0.bytes * (8 * n) : Nat) : Int) ≤ 32 * 65536 := by omega
    rw [Int.natCast_mul] at q
    omega
  have r := run_make (P := Try.prog) W 71 95 i0 _ Try.underlying71 h0 hz0 .i64 .i64 ((8 * n : Nat) : Int) ((8 * n : Nat) : Int) (by omega) (Int.le_refl _) hbm2 (by omega)
  simp only [Int.toNat_natCast, hz1] at r
  rw [r, ← zeroW_row (8 * n)]
def newRC (n : Nat) : RefC := { n := n, ws := zeroW, wear := fun _ => 0, bad := fun _ => false, fuse := 0, off := false, cnt := 0 }
section
variable (w : World) (A B C H : Obj)
theorem four0 : (((((w.alloc A).alloc B).alloc C).alloc H).drew).heap[w.heap.size]? = some A := by
  show ((((w.heap.push A).push B).push C).push H)[w.heap.size]? = some A
  rw [Array.getElem?_push, if_neg (by simp only [Array.size_push]; omega), Array.getElem?_push, if_neg (by simp only [Array.size_push]; omega), Array.getElem?_push, if_neg (by simp only [Array.size_push]; omega), Array.getElem?_push, if_pos (by simp only [Array.size_push])]
theorem four1 : (((((w.alloc A).alloc B).alloc C).alloc H).drew).heap[w.heap.size + 1]? = some B := by
  show ((((w.heap.push A).push B).push C).push H)[w.heap.size + 1]? = some B
  rw [Array.getElem?_push, if_neg (by simp only [Array.size_push]; omega), Array.getElem?_push, if_neg (by simp only [Array.size_push]; omega), Array.getElem?_push, if_pos (by simp only [Array.size_push])]
theorem four2 : (((((w.alloc A).alloc B).alloc C).alloc H).drew).heap[w.heap.size + 1 + 1]? = some C := by
  show ((((w.heap.push A).push B).push C).push H)[w.heap.size + 1 + 1]? = some C
  rw [Array.getElem?_push, if_neg (by simp only [Array.size_push]; omega), Array.getElem?_push, if_pos (by simp only [Array.size_push])]
theorem four3 : (((((w.alloc A).alloc B).alloc C).alloc H).drew).heap[w.heap.size + 1 + 1 + 1]? = some H := by
  show ((((w.heap.push A).push B).push C).push H)[w.heap.size + 1 + 1 + 1]? = some H
  rw [Array.getElem?_push, if_pos (by simp only [Array.size_push])]
end
theorem rnew_fin {w W : World} {n b4 bm bw bg : Nat} {R1 R2 R3 : Array Value} (h1 : 1 ≤ n) (h2 : n ≤ 8192) (HR : rowOf (wcell zeroW) (4 * (8 * n)) = R1 ∧ rowOf (fun _ => Value.int .i64 0) n = R2 ∧ rowOf (fun _ => Value.bool false) n = R3)
    (hH : W.heap[b4]? = some (.cells #[.slice (some ⟨bm, 0, none⟩) (8 * n) (8 * n), .slice (some ⟨bw, 0, none⟩) n n, .slice (some ⟨bg, 0, none⟩) n n, .int .i64 0, .bool false, .int .i64 0] 73))
    (q1 : W.heap[bm]? = some (.cells R1 95)) (q3 : W.heap[bw]? = some (.cells R2 3)) (q4 : W.heap[bg]? = some (.cells R3 4))
    (nd : [b4, bm, bw, bg].Nodup) (lo : ∀ b ∈ [b4, bm, bw, bg], w.heap.size ≤ b) (g : Gr [] w W) :
    RefRow W ⟨b4, bm, bw, bg⟩ (newRC n) ∧ (∀ b ∈ (RefA.mk b4 bm bw bg).all, w.heap.size ≤ b) ∧ Gr [] w W := by
  obtain ⟨rfl, rfl, rfl⟩ := HR
  exact ⟨⟨hH, q1, q3, q4, nd, h1, h2⟩, lo, g⟩

set_option maxRecDepth 20000 in
set_option maxHeartbeats 4000000 in
theorem rnew_any (n : Nat) (w : World) (h1 : 1 ≤ n) (h2 : n ≤ 8192) :
    Calls Try.prog 13 #[.int .i64 (n : Int)] w fun e w' => ∃ r : RefA, e = .returned (.pointer (some ⟨r.rd, 0, none⟩)) ∧ RefRow w' r (newRC n) ∧ (∀ b ∈ r.all, w.heap.size ≤ b) ∧ Gr [] w w' := by
  have m1 := fun W => makeW_run n h2 W
  have m2 := fun W => make_run (.int .i64 0) 8 n n rfl Try.underlying43 infoI64 rfl (by omega) (by omega) W
  have m3 := fun W => make_run (.bool false) 1 n n rfl Try.underlying31 infoB rfl (by omega) (by omega) W
  generalize hr1 : rowOf (wcell zeroW) (4 * (8 * n)) = R1 at *
  generalize hr2 : rowOf (fun _ => Value.int .i64 0) n = R2 at *
  generalize hr3 : rowOf (fun _ => Value.bool false) n = R3 at *
  have HR := Lib.hid (And.intro hr1 (And.intro hr2 hr3))
  clear hr1 hr2 hr3
  go_enter Try.func13, Try.ntmps13
  go_wp2_with fail
  go_region
  all_goals go_wp2
  all_goals go_ret
  all_goals
    refine ⟨⟨_, _, _, _⟩, rfl, rnew_fin (w := w) h1 h2 HR.out (four3 w _ _ _ _) ?_ ?_ ?_ ?_ ?_ ?_⟩
    · first | exact four0 w _ _ _ _ | exact four1 w _ _ _ _ | exact four2 w _ _ _ _
    · first | exact four0 w _ _ _ _ | exact four1 w _ _ _ _ | exact four2 w _ _ _ _
    · first | exact four0 w _ _ _ _ | exact four1 w _ _ _ _ | exact four2 w _ _ _ _
    · simp only [List.nodup_cons, List.mem_cons, List.not_mem_nil, or_false, not_or, List.nodup_nil, and_true, not_false_eq_true]; omega
    · intro b hb; simp only [List.mem_cons, List.not_mem_nil, or_false] at hb; omega
    · exact (((((Gr.refl _ _).alloc _).alloc _).alloc _).alloc _).drew

end Go.Proofs.Ytphaaebbofgdnaa
