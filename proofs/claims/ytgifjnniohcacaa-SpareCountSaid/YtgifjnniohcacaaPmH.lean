/-
  pm: Fence, whole.
-/
import Derived.Test.YtgifjnniohcacaaPmG
namespace Go.Proofs.Ytgifjnniohcacaa
open Go.RowKit

def fenceF (D : DevS) : DevS := { persistD D (fluS D) with cnt := D.cnt + 1 }
theorem Did.ofDev {a : DevA} {D E : DevS} {W W' : World} (h : DevIs W' a E) (g : Gr a.all W W') (hc : E.cnt = D.cnt) : Did a D { E with cnt := D.cnt + 1 } W W' := by
  have c := h.c6
  rw [hc] at c
  have r := h.setCnt (D.cnt + 1) (by omega)
  exact ⟨c, h.fr 6, r, g⟩

theorem fence_nil (w : World) : Calls Try.prog 70 #[.pointer none] w fun e w' => e = .returned (.int .i64 1) ∧ Gr [] w w' := by
  have HG := Lib.hid ((Gr.refl [] w).alloc (Obj.cells #[.pointer none] 33))
  go_enter Try.func70, Try.ntmps70
  go_wp2_with fail
  refine (operate_nil true _ _).mono ?_
  rintro e w' ⟨rfl, rfl⟩
  go_wp2_with fail
  go_ret
  exact ⟨rfl, HG.out⟩

set_option maxRecDepth 20000 in
set_option maxHeartbeats 1000000 in
theorem fence_any (a : DevA) (D : DevS) (w : World) (h : DevIs w a D) (hc : D.cnt < 4611686018427387904) (hw : ∀ l, 0 ≤ D.wear l ∧ D.wear l < 4611686018427387904) :
    Calls Try.prog 70 #[.pointer (some ⟨a.bd, 0, none⟩)] w fun e w' => e = .returned (.int .i64 (opE D true)) ∧ DevIs w' a (opD D true fenceF) ∧ Gr a.all w w' := by
  have X0 := Holds.new w #[.pointer (some ⟨a.bd, 0, none⟩)] 33
  have g := (Gr.refl [] w).alloc (Obj.cells #[.pointer (some ⟨a.bd, 0, none⟩)] 33)
  have HG := Lib.hid g
  have HT := Lib.hid (h.gr0 g)
  clear g
  by_cases he : reachE D true = 0
  · by_cases hf : D.fuse = 1
    · have HE := Lib.hid (And.intro (opE_fuse he hf) (fun f => opD_fuse (f := f) he hf))
      have HO := Lib.hid (fun g W (q : DevIs W a D) => operate_fuse a D true g W q he hf)
      clear he hf X0 h hw
      go_enter Try.func70, Try.ntmps70
      go_wp2_with fail
      refine (HO.out _ _ HT.out).mono ?_
      rintro e w' ⟨rfl, d2, g2⟩
      have HR := Lib.hid (And.intro d2 ((HG.out.of0.trans (g2.mono (cs := a.all) (fun b hb => by simp at hb; subst hb; simp [DevA.all])))))
      clear d2 g2
      go_wp2_with fail
      go_ret
      exact ⟨by rw [HE.out.1]; rfl, by rw [HE.out.2]; exact HR.out.1, HR.out.2⟩
    · have HE := Lib.hid (And.intro (opE_ok he hf) (fun f => opD_ok (f := f) he hf))
      have hlt := h.lt
      have na : w.heap.size ∉ a.all := fun hm => by have := hlt _ hm; omega
      have HO := Lib.hid (operate_fence a D (fenceF (lit D)) w.heap.size _ HT.out he hf hc (fun W g d => by
        have e0 := (X0.gr g na).cell 0
        exact (fence1 a (lit D) w.heap.size W d e0 hw).mono fun e W' q => ⟨q.1, Did.ofDev q.2.1 q.2.2 rfl⟩))
      clear he hf X0 h hlt na hw
      go_enter Try.func70, Try.ntmps70
      go_wp2_with fail
      refine HO.out.mono ?_
      rintro e w' ⟨rfl, d2, g2⟩
      have HR := Lib.hid (And.intro d2 (HG.out.of0.trans g2))
      clear d2 g2
      go_wp2_with fail
      go_ret
      exact ⟨by rw [HE.out.1]; rfl, by rw [HE.out.2]; exact HR.out.1, HR.out.2⟩
  · have HE := Lib.hid (And.intro (opE_err he) (fun f => opD_err (f := f) he))
    have HO := Lib.hid (fun g => operate_err a D true g _ HT.out he)
    clear he X0 h hw
    go_enter Try.func70, Try.ntmps70
    go_wp2_with fail
    refine (HO.out _).mono ?_
    rintro e w' ⟨rfl, rfl⟩
    go_wp2_with fail
    go_ret
    exact ⟨by rw [HE.out.1]; rfl, by rw [HE.out.2]; exact HT.out, HG.out.of0⟩

end Go.Proofs.Ytgifjnniohcacaa
