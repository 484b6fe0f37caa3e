/-
  Layer 12: Follows, the program's and the document's; of.
-/
import Derived.Test.YtpkhfdcokcchdabDoorRcB
namespace Go.Proofs.YtpkhfdcokcchdabDoor
open Go.RowKit

def st3 (e v q : Nat) : Value := .agg #[.int .u32 e, .int .u32 v, .int .u32 q]
def folB (e v q e' v' q' : Nat) : Bool := decide (e = e' ∧ v' ≤ v ∧ q = q' + 1)
theorem follows_any (e v q e' v' q' : Nat) (w : World) (hq : q < 4294967296) (hq' : q' < 4294967296) :
    Calls Tryd.prog 15 #[.agg #[.int .u32 e, .int .u32 v, .int .u32 q], .agg #[.int .u32 e', .int .u32 v', .int .u32 q']] w fun r w' => r = .returned (.bool (folB e v q e' v' q')) ∧ Gr [] w w' := by
  have HG := Lib.hid (((Gr.refl [] w).alloc (Obj.cells #[.int .u32 e, .int .u32 v, .int .u32 q] 30)).alloc (Obj.cells #[.int .u32 e', .int .u32 v', .int .u32 q'] 30))
  obtain ⟨r, hr⟩ : ∃ r, r = folB e v q e' v' q' := ⟨_, rfl⟩
  rw [← hr]
  have HR := Lib.hid hr
  clear hr
  by_cases h1 : e = e'
  · have t1 : ((e : Int) == (e' : Int)) = true := by simp; omega
    have H1 := Lib.hid h1
    clear h1
    by_cases h2 : q' = 4294967295
    · have t2 : ((q' : Int) != 4294967295) = false := by simp; omega
      have H2 := Lib.hid h2
      clear h2
      go_enter Tryd.func15, Tryd.ntmps15
      go_wp2_with fail
      go_ret
      refine ⟨?_, HG.out⟩
      rw [HR.out, show folB e v q e' v' q' = false from decide_eq_false (by have := H2.out; omega)]
      rfl
    · have t2 : ((q' : Int) != 4294967295) = true := by simp; omega
      have t3 : ((q' : Int) + 1) % 4294967296 = (q' : Int) + 1 := by omega
      by_cases h3 : q = q' + 1
      · have t4 : ((q : Int) == (q' : Int) + 1) = true := by simp; omega
        have H3 := Lib.hid h3
        clear h2 h3
        by_cases h5 : v' ≤ v
        · have t5 : decide (v' ≤ v) = true := by simpa using h5
          go_enter Tryd.func15, Tryd.ntmps15
          go_wp2_with fail
          go_ret
          refine ⟨?_, HG.out⟩
          rw [HR.out, show folB e v q e' v' q' = true from decide_eq_true ⟨H1.out, h5, H3.out⟩]
          rfl
        · have t5 : decide (v' ≤ v) = false := by simpa using h5
          go_enter Tryd.func15, Tryd.ntmps15
          go_wp2_with fail
          go_ret
          refine ⟨?_, HG.out⟩
          rw [HR.out, show folB e v q e' v' q' = false from decide_eq_false (by omega)]
          rfl
      · have t4 : ((q : Int) == (q' : Int) + 1) = false := by simp; omega
        have H3 := Lib.hid h3
        clear h2 h3
        go_enter Tryd.func15, Tryd.ntmps15
        go_wp2_with fail
        go_ret
        refine ⟨?_, HG.out⟩
        rw [HR.out, show folB e v q e' v' q' = false from decide_eq_false (by have := H3.out; omega)]
        rfl
  · have t1 : ((e : Int) == (e' : Int)) = false := by simp; omega
    have H1 := Lib.hid h1
    clear h1
    go_enter Tryd.func15, Tryd.ntmps15
    go_wp2_with fail
    go_ret
    refine ⟨?_, HG.out⟩
    rw [HR.out, show folB e v q e' v' q' = false from decide_eq_false (fun h => H1.out h.1)]
    rfl
theorem rfollows_any (e v q e' v' q' : Nat) (w : World) (hq : q < 4294967296) (hq' : q' < 4294967296) :
    Calls Tryd.prog 16 #[.agg #[.int .u32 e, .int .u32 v, .int .u32 q], .agg #[.int .u32 e', .int .u32 v', .int .u32 q']] w fun r w' => r = .returned (.bool (folB e v q e' v' q')) ∧ Gr [] w w' := by
  have HG := Lib.hid (((Gr.refl [] w).alloc (Obj.cells #[.int .u32 e, .int .u32 v, .int .u32 q] 23)).alloc (Obj.cells #[.int .u32 e', .int .u32 v', .int .u32 q'] 23))
  obtain ⟨r, hr⟩ : ∃ r, r = folB e v q e' v' q' := ⟨_, rfl⟩
  rw [← hr]
  have HR := Lib.hid hr
  clear hr
  have u1 : IntKind.u64.wrap (q : Int) = (q : Int) := by rw [IntKind.wrap_u64]; omega
  have u2 : IntKind.u64.wrap (q' : Int) = (q' : Int) := by rw [IntKind.wrap_u64]; omega
  have u3 : IntKind.u64.wrap ((q' : Int) + 1) = (q' : Int) + 1 := by rw [IntKind.wrap_u64]; omega
  by_cases h1 : e = e'
  · have t1 : ((e : Int) == (e' : Int)) = true := by simp; omega
    have H1 := Lib.hid h1
    clear h1
    by_cases h5 : v' ≤ v
    · have t5 : decide (v' ≤ v) = true := by simpa using h5
      by_cases h3 : q = q' + 1
      · have t4 : ((q : Int) == (q' : Int) + 1) = true := by simp; omega
        have H3 := Lib.hid h3
        clear h3
        go_enter Tryd.func16, Tryd.ntmps16
        go_wp2_with fail
        go_ret
        refine ⟨?_, HG.out⟩
        rw [HR.out, show folB e v q e' v' q' = true from decide_eq_true ⟨H1.out, h5, H3.out⟩]
        rfl
      · have t4 : ((q : Int) == (q' : Int) + 1) = false := by simp; omega
        have H3 := Lib.hid h3
        clear h3
        go_enter Tryd.func16, Tryd.ntmps16
        go_wp2_with fail
        go_ret
        refine ⟨?_, HG.out⟩
        rw [HR.out, show folB e v q e' v' q' = false from decide_eq_false (by have := H3.out; omega)]
        rfl
    · have t5 : decide (v' ≤ v) = false := by simpa using h5
      have H5 := Lib.hid h5
      go_enter Tryd.func16, Tryd.ntmps16
      go_wp2_with fail
      go_ret
      refine ⟨?_, HG.out⟩
      rw [HR.out, show folB e v q e' v' q' = false from decide_eq_false (by have := H5.out; omega)]
      rfl
  · have t1 : ((e : Int) == (e' : Int)) = false := by simp; omega
    have H1 := Lib.hid h1
    clear h1
    go_enter Tryd.func16, Tryd.ntmps16
    go_wp2_with fail
    go_ret
    refine ⟨?_, HG.out⟩
    rw [HR.out, show folB e v q e' v' q' = false from decide_eq_false (fun h => H1.out h.1)]
    rfl
theorem of_any (e v q : Nat) (w : World) :
    Calls Tryd.prog 8 #[.agg #[.int .u32 e, .int .u32 v, .int .u32 q]] w fun r w' => r = .returned (.agg #[.int .u32 e, .int .u32 v, .int .u32 q]) ∧ Gr [] w w' := by
  have HG := Lib.hid (((Gr.refl [] w).alloc (Obj.cells #[.int .u32 e, .int .u32 v, .int .u32 q] 23)).alloc (Obj.cells #[.int .u32 e, .int .u32 v, .int .u32 q] 30))
  go_enter Tryd.func8, Tryd.ntmps8
  go_wp2_with fail
  exact bodyPost_ret (v := .agg #[.int .u32 e, .int .u32 v, .int .u32 q]) (by simp [results, Tryd.results8, go_sem]) rfl ⟨rfl, HG.out⟩

end Go.Proofs.YtpkhfdcokcchdabDoor
