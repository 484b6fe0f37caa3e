/-
  Layer 5: note.
-/
import Derived.Test.YtgifjnniohcacaaSpG
import Derived.Test.YtgifjnniohcacaaCrc
namespace Go.Proofs.Ytgifjnniohcacaa
open Go.RowKit

/-- What the table's word of a spare says. -/
def noteBad (p : PlanZ) (k v : Nat) (B : BkS) : Prop := guardN v ≠ v ∨ B.used < k ∨ low48 v = 0 ∨ (p.l < (low48 v : Int) ∧ low48 v ≠ 65535)
instance (p : PlanZ) (k v : Nat) (B : BkS) : Decidable (noteBad p k v B) := by unfold noteBad; infer_instance
def noteB (k v : Nat) (B : BkS) : BkS := ⟨B.used + 1, if low48 v = 65535 then B.wh else updZ B.wh ((low48 v : Int) - 1) (some k)⟩
def noteS (p : PlanZ) (k v : Nat) (B : BkS) : Int × BkS := if v = 0 then (0, B) else if noteBad p k v B then (5, B) else (0, noteB k v B)
theorem low48_lt (v : Nat) : low48 v < 281474976710656 := by unfold low48; omega
section
variable {w : World} {q : BkA} {a : DevA} {p : PlanZ} {B : BkS} {m : Nat}
theorem note_zero (k : Nat) : Calls Try.prog 33 #[.pointer (some ⟨q.b, 0, none⟩), .int .i64 (k : Int), .int .u64 0] w fun e w' => e = .returned (.int .i64 0) ∧ w' = w := by
  go_enter Try.func33, Try.ntmps33
  go_wp2_with fail
  go_ret
  exact ⟨rfl, rfl⟩
set_option maxRecDepth 100000 in
set_option maxHeartbeats 8000000 in
theorem note_bad (k v : Nat) (h : BkIs w q a p B m) (h0 : v ≠ 0) (hv : v < 18446744073709551616) (hb : noteBad p k v B) :
    Calls Try.prog 33 #[.pointer (some ⟨q.b, 0, none⟩), .int .i64 (k : Int), .int .u64 (v : Int)] w fun e w' => e = .returned (.int .i64 5) ∧ Gr [] w w' := by
  have d0 : ((v : Int) == 0) = false := by simpa using h0
  have H := Lib.hid h
  obtain ⟨h1, h2, h3, h4, h5, h6⟩ := (okZ_iff _).1 h.ok
  have i1 : IntKind.u64.wrap p.l = p.l := IntWalk.u64_in _ (by omega)
  by_cases hg : guardN v = v
  · have HGd := Lib.hid (guarded_yes v w hv hg)
    obtain ⟨n, hn⟩ : ∃ n, n = low48 v := ⟨_, rfl⟩
    have hnl : n < 281474976710656 := hn ▸ low48_lt v
    rw [← hn] at HGd
    have hb : B.used < k ∨ n = 0 ∨ (p.l < (n : Int) ∧ n ≠ 65535) := by
      rcases hb with hb | hb
      · exact absurd hg hb
      · rw [← hn] at hb; exact hb
    clear hn hg h h0
    by_cases hu : B.used < k
    · have u1 : ((B.used : Int) < (k : Int)) := by omega
      clear hb
      go_enter Try.func33, Try.ntmps33
      go_wp2_with fail
      refine HGd.out.mono ?_
      rintro e w1 ⟨rfl, hb1⟩
      have HG1 := Lib.hid (Gr.ofBelow (cs := []) hb1)
      have c4 := (H.out.gr0 HG1.out).c4
      clear hb1
      go_wp2_with fail
      go_ret
      exact ⟨rfl, HG1.out⟩
    · have u1 : ¬ ((B.used : Int) < (k : Int)) := by omega
      by_cases hz : n = 0
      · subst hz
        clear hb
        go_enter Try.func33, Try.ntmps33
        go_wp2_with fail
        refine HGd.out.mono ?_
        rintro e w1 ⟨rfl, hb1⟩
        have HG1 := Lib.hid (Gr.ofBelow (cs := []) hb1)
        have c4 := (H.out.gr0 HG1.out).c4
        clear hb1
        go_wp2_with fail
        go_ret
        exact ⟨rfl, HG1.out⟩
      · have z1 : ((n : Int) == 0) = false := by simpa using hz
        obtain ⟨b1, b2⟩ : p.l < (n : Int) ∧ n ≠ 65535 := by rcases hb with hb | hb | hb; exact absurd hb hu; exact absurd hb hz; exact hb
        have b3 : ((n : Int) != 65535) = true := by simp; omega
        clear hb hz b2
        go_enter Try.func33, Try.ntmps33
        go_wp2_with fail
        refine HGd.out.mono ?_
        rintro e w1 ⟨rfl, hb1⟩
        have HG1 := Lib.hid (Gr.ofBelow (cs := []) hb1)
        have c4 := (H.out.gr0 HG1.out).c4
        have c2 := (H.out.gr0 HG1.out).c2
        clear hb1
        go_wp2_with fail
        go_ret
        exact ⟨rfl, HG1.out⟩
  · have HGd := Lib.hid (guarded_no v w hv hg)
    clear hg h hb h0
    go_enter Try.func33, Try.ntmps33
    go_wp2_with fail
    refine HGd.out.mono ?_
    rintro e w1 ⟨rfl, hb1⟩
    have HG1 := Lib.hid (Gr.ofBelow (cs := []) hb1)
    clear hb1
    go_wp2_with fail
    go_ret
    exact ⟨rfl, HG1.out⟩
end
end Go.Proofs.Ytgifjnniohcacaa
