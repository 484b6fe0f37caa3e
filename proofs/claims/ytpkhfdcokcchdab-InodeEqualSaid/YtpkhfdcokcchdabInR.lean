/-
  Layer 16: Equal of any two inodes; tame of any inode.
-/
import Derived.Test.YtpkhfdcokcchdabInQ
import Derived.Laws.StructEq
import Derived.BigQuiet
namespace Go.Proofs.Ytpkhfdcokcchdab
open Go.RowKit

theorem iaeqIn (x1 x2 y1 y2 : Int) (w : World) : (Op.equalIn 10000 72 (.agg #[.int .i64 x1, .int .i64 x2]) (.agg #[.int .i64 y1, .int .i64 y2])).run Try.prog w = .ok (x1 == y1 && x2 == y2) w := by
  have u3 := Try.underlying3
  have a3 := Try.isAgg3
  have z3 := Try.sizeOf3
  have hS : Try.prog.underlying 72 = some (.struct (Try.prog.fieldsOf 72)) := by kernel_rfl
  have hp : Try.prog.stoodInHeld 72 = false := by kernel_rfl
  rw [show (10000 : Nat) = 9999 + 1 from rfl, run_equalIn_agg w 9999 72 _ _ hS hp]
  simp only [Program.fieldsOf, Try.underlying72]
  go_simp
  by_cases h1 : x1 = y1 <;> by_cases h2 : x2 = y2 <;> simp [h1, h2]
theorem iaguard : Try.prog.eqGuardType Try.prog.depth 72 = false := by kernel_rfl
set_option maxHeartbeats 2000000 in
set_option maxRecDepth 20000 in
theorem seq_dec (b b' : List (Int × Int)) (B B' : Nat) (ao ao' : Option Addr) (cap cap' : Nat) (w : World) (h : Rd2 w ao b) (h' : Rd2 w ao' b') (hB : B = b.length) (hB' : B' = b'.length) (hL : B ≤ 1000) :
    Calls Try.prog 43 #[.slice ao B cap, .slice ao' B' cap'] w fun e w' => (∃ r : Bool, (r = true ↔ b = b') ∧ e = .returned (.bool r)) ∧ Gr [] w w' := by
  have HG := Lib.hid (Gr.refl [] w)
  by_cases hbb : B = B'
  · subst hbb
    have HR := Lib.hid (And.intro h (And.intro h' (And.intro hB hB')))
    have heq := iaeqIn
    have hgr := fun (W : World) (op : BinOp) (x y : Operand) (xs ys : Array Value) => run_eqGuard_agg (P := Try.prog) (w := W) op 72 x y xs ys iaguard
    clear h h' hB hB'
    go_enter Try.func43, Try.ntmps43
    go_wp2_with fail
    go_loopw [13] (fun i wr => ∃ j : Nat, j ≤ B ∧ i = .int .i64 j ∧ Hid (∀ q, q < j → b[q]? = b'[q]?) ∧ Gr [] w wr) (fun i _ => B - (intOf i).toNat)
    case atStart => exact ⟨0, by omega, rfl, Lib.hid (fun q hq => by omega), HG.out⟩
    case round =>
      obtain ⟨j, hj, rfl, HE, G⟩ := hrel
      have HGr := Lib.hid G
      by_cases hjB : j < B
      · have hjB2 : (j : Int) < (B : Int) := by omega
        obtain ⟨⟨x1, x2⟩, hx⟩ : ∃ x, b[j]? = some x := ⟨_, List.getElem?_eq_getElem (by have := HR.out.2.2.1; omega)⟩
        obtain ⟨⟨z1, z2⟩, hz⟩ : ∃ x, b'[j]? = some x := ⟨_, List.getElem?_eq_getElem (by have := HR.out.2.2.2; omega)⟩
        obtain ⟨k1, o1, ha1, hk1, c1, c2⟩ := HR.out.1 j _ hx
        obtain ⟨k2, o2, ha2, hk2, d1, d2⟩ := HR.out.2.1 j _ hz
        subst ha1 ha2
        have y0 : wr.cell? ⟨k1, o1 + j * 2, none⟩ = some (.int .i64 x1) := (G.cell0 hk1).trans c1
        have y1 : wr.cell? ⟨k1, o1 + j * 2 + 1, none⟩ = some (.int .i64 x2) := (G.cell0 hk1).trans c2
        have t0 : wr.cell? ⟨k2, o2 + j * 2, none⟩ = some (.int .i64 z1) := (G.cell0 hk2).trans d1
        have t1 : wr.cell? ⟨k2, o2 + j * 2 + 1, none⟩ = some (.int .i64 z2) := (G.cell0 hk2).trans d2
        clear c1 c2 d1 d2 G hk1 hk2
        by_cases he : x1 = z1 ∧ x2 = z2
        · obtain ⟨e1, e2⟩ := he
          subst e1 e2
          have HN := Lib.hid (show ∀ q, q < j + 1 → b[q]? = b'[q]? from fun q hq => by
            by_cases e : q = j
            · subst e; rw [hx, hz]
            · exact HE.out q (by omega))
          clear hx hz
          go_wp2_with fail
          go_quiet (fail)
          go_wp2_with fail
          go_roundw
          case rel => exact ⟨j + 1, by omega, by go_num, HN, HGr.out.drewN _⟩
          case measure => simp [intOf]; omega
        · have hd : (x1 == z1 && x2 == z2) = false := by
            by_cases e1 : x1 = z1
            · have e2 : x2 ≠ z2 := fun e => he ⟨e1, e⟩
              simp [e2]
            · simp [e1]
          have HN := Lib.hid (show ¬ b = b' from fun e => he (by rw [e, hz] at hx; injection hx with hx; injection hx with p q; exact ⟨p.symm, q.symm⟩))
          clear hx hz he
          go_wp2_with fail
          go_quiet (fail)
          go_wp2_with fail
          go_ret
          exact ⟨⟨false, ⟨fun e => (by cases e), fun e => absurd e HN.out⟩, rfl⟩, HGr.out.drewN _⟩
      · obtain rfl : j = B := by omega
        have HN := Lib.hid (show b = b' from List.ext_getElem? fun q => by
          by_cases e : q < j
          · exact HE.out q e
          · rw [List.getElem?_eq_none (by have := HR.out.2.2.1; omega), List.getElem?_eq_none (by have := HR.out.2.2.2; omega)])
        go_wp2_with fail
        go_ret
        exact ⟨⟨true, ⟨fun _ => HN.out, fun _ => rfl⟩, rfl⟩, HGr.out⟩
  · have hbn : ((B : Int) != (B' : Int)) = true := by simp; omega
    have hbn2 : ¬ (B : Int) = (B' : Int) := by omega
    have HN := Lib.hid (show ¬ b = b' from fun e => hbb (by rw [hB, hB', e]))
    clear hB hB' h h'
    go_enter Try.func43, Try.ntmps43
    go_wp2_with fail
    go_ret
    exact ⟨⟨false, ⟨fun e => (by cases e), fun e => absurd e HN.out⟩, rfl⟩, HG.out⟩

set_option maxHeartbeats 2000000 in
set_option maxRecDepth 20000 in
theorem iequal_dec (k : Nat) (l s : Int) (b : List (Int × Int)) (t : ByteArray) (k' : Nat) (l' s' : Int) (b' : List (Int × Int)) (t' : ByteArray) (B B' : Nat) (ao ao' : Option Addr) (cap cap' : Nat) (w : World) (h : Rd2 w ao b) (h' : Rd2 w ao' b') (hB : B = b.length) (hB' : B' = b'.length) (hL : B ≤ 1000) :
    Calls Try.prog 22 #[.agg #[.int .u8 k, .int .i64 l, .int .i64 s, .slice ao B cap, .string t], .agg #[.int .u8 k', .int .i64 l', .int .i64 s', .slice ao' B' cap', .string t']] w fun e w' => (∃ r : Bool, (r = true ↔ (k = k' ∧ l = l' ∧ s = s' ∧ b = b' ∧ t = t')) ∧ e = .returned (.bool r)) ∧ Gr [] w w' := by
  have g2 := ((Gr.refl [] w).alloc (Obj.cells #[.int .u8 k, .int .i64 l, .int .i64 s, .slice ao B cap, .string t] 31)).alloc (Obj.cells #[.int .u8 k', .int .i64 l', .int .i64 s', .slice ao' B' cap', .string t'] 31)
  have HG := Lib.hid g2
  have HA := Lib.hid ((Holds.new w #[.int .u8 k, .int .i64 l, .int .i64 s, .slice ao B cap, .string t] 31).alloc (Obj.cells #[.int .u8 k', .int .i64 l', .int .i64 s', .slice ao' B' cap', .string t'] 31))
  have hb := Holds.new (w.alloc (Obj.cells #[.int .u8 k, .int .i64 l, .int .i64 s, .slice ao B cap, .string t] 31)) #[.int .u8 k', .int .i64 l', .int .i64 s', .slice ao' B' cap', .string t'] 31
  rw [World.size_alloc] at hb
  have HBx := Lib.hid hb
  have HS := Lib.hid (seq_dec b b' B B' ao ao' cap cap' _ (h.gr0 g2) (h'.gr0 g2) hB hB' hL)
  have no : ∀ {P : Prop}, ¬ P → (false = true ↔ P) := fun h => ⟨fun e => (by cases e), fun e => absurd e h⟩
  clear g2 hb h h' hB hB'
  by_cases h1 : k = k'
  · by_cases h2 : l = l'
    · by_cases h3 : s = s'
      · subst h1 h2 h3
        go_enter Try.func22, Try.ntmps22
        go_wp2_with fail
        refine HS.out.mono ?_
        rintro e w1 ⟨⟨r, hr, rfl⟩, g1⟩
        have HG1 := Lib.hid (HG.out.next0 g1)
        have HRR := Lib.hid hr
        have a4 := (HA.out.gr0 g1).cell 4
        have b4 := (HBx.out.gr0 g1).cell 4
        have a0 := (HA.out.gr0 g1).cell 0
        have b0 := (HBx.out.gr0 g1).cell 0
        clear hr g1
        cases r with
        | false =>
          go_wp2_with fail
          go_ret
          exact ⟨⟨false, no (fun q => by have := HRR.out.2 q.2.2.2.1; simp at this), rfl⟩, HG1.out⟩
        | true =>
          by_cases h5 : t = t'
          · subst h5
            go_wp2_with fail
            go_ret
            exact ⟨.inr ⟨by have := HRR.out; simpa using this, rfl⟩, HG1.out⟩
          · have hq := beq_ne h5
            go_wp2_with fail
            go_ret
            exact ⟨⟨false, no (fun q => h5 q.2.2.2.2), rfl⟩, HG1.out⟩
      · subst h1 h2
        have hq : (s == s') = false := by simpa using h3
        have HN := Lib.hid h3
        clear h3
        go_enter Try.func22, Try.ntmps22
        go_wp2_with fail
        go_ret
        exact ⟨⟨false, no (fun q => HN.out q.2.2.1), rfl⟩, HG.out⟩
    · subst h1
      have hq : (l == l') = false := by simpa using h2
      have HN := Lib.hid h2
      clear h2
      go_enter Try.func22, Try.ntmps22
      go_wp2_with fail
      go_ret
      exact ⟨⟨false, no (fun q => HN.out q.2.1), rfl⟩, HG.out⟩
  · have hq : ((k : Int) == (k' : Int)) = false := by simp; omega
    have HN := Lib.hid h1
    clear h1
    go_enter Try.func22, Try.ntmps22
    go_wp2_with fail
    go_ret
    exact ⟨⟨false, no (fun q => HN.out q.1), rfl⟩, HG.out⟩
theorem etame16 (k : Nat) (l s : Int) (bl : List (Int × Int)) (t : ByteArray) (N : Nat) (ao : Option Addr) (cV : Nat) (w : World) (hv : Sl2 w (.slice ao N cV) bl) (ht : t.size ≤ maxLen) (hk0 : k < 256) :
    Calls Try.prog 12 #[.agg #[.int .u8 k, .int .i64 l, .int .i64 s, .slice ao N cV, .string t]] w (TamI w) := by
  have : (k : Int) % 3 = 0 ∨ (k : Int) % 3 = 1 ∨ (k : Int) % 3 = 2 := by omega
  rcases this with h | h | h
  · exact tame_file k l s bl t N ao cV w hv ht h hk0
  · exact tame_dir k l s bl t N ao cV w hv ht h hk0
  · exact tame_link k l s bl t N ao cV w hv ht h hk0

end Go.Proofs.Ytpkhfdcokcchdab
