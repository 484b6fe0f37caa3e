/-
  LineMixes.
-/
import Derived.Test.YtphaaebbofgdnaaLnG
import Derived.Deep.RegionHeld3
namespace Go.Proofs.Ytphaaebbofgdnaa
open Go.RowKit

/-- G's first words are A's or B's. -/
def MixTo (A B G : ByteArray) (k : Nat) : Prop := G.size = 8 * k ∧ ∀ j, j < k → wdL G.data.toList j = wdL A.data.toList j ∨ wdL G.data.toList j = wdL B.data.toList j
theorem MixTo.next {A B G X : ByteArray} {k : Nat} (h : MixTo A B G k) (hX : X = A ∨ X = B) (hs : X.size = 64) (hk : k < 8) : MixTo A B (G ++ X.extract (8 * k) (8 * k + 8)) (k + 1) := by
  have hg : G.data.toList.length = 8 * k := h.1
  have hx : (X.extract (8 * k) (8 * k + 8)).data.toList = (X.data.toList.drop (8 * k)).take 8 := ext8 X (8 * k)
  have hxl : X.data.toList.length = 64 := hs
  have e : (G ++ X.extract (8 * k) (8 * k + 8)).data.toList = G.data.toList ++ (X.data.toList.drop (8 * k)).take 8 := by
    rw [ByteArray.data_append, Array.toList_append, hx]
  refine ⟨?_, fun j hj => ?_⟩
  · show (G ++ X.extract (8 * k) (8 * k + 8)).data.toList.length = _
    rw [e, List.length_append, hg, List.length_take, List.length_drop, hxl]
    omega
  · by_cases c : j = k
    · subst c
      have q : wdL (G ++ X.extract (8 * j) (8 * j + 8)).data.toList j = wdL X.data.toList j := by
        unfold wdL
        rw [e, show 8 * j = G.data.toList.length by omega, List.drop_left, List.take_take, Nat.min_self]
      rcases hX with rfl | rfl
      · exact .inl q
      · exact .inr q
    · have q : wdL (G ++ X.extract (8 * k) (8 * k + 8)).data.toList j = wdL G.data.toList j := by
        unfold wdL
        rw [e, List.drop_append_of_le_length (by omega), List.take_append_of_le_length (by rw [List.length_drop, hg]; omega)]
      rw [q]
      exact h.2 j (by omega)
theorem MixTo.all {A B G : ByteArray} (hA : A.size = 64) (hB : B.size = 64) (h : MixTo A B G 8) : mixB A B G = true := by
  unfold mixB
  rw [decide_eq_true ⟨hA, hB, h.1⟩, Bool.true_and, List.all_eq_true]
  intro j hj
  rw [List.mem_range] at hj
  rcases h.2 j hj with q | q <;> simp [q]
theorem str7_at (s0 s1 s2 s3 s4 s5 s6 : ByteArray) (P : ByteArray → Prop) (h0 : P s0) (h1 : P s1) (h2 : P s2) (h3 : P s3) (h4 : P s4) (h5 : P s5) (h6 : P s6) (i : Nat) (hi : i < 7) :
    ∃ X, P X ∧ (#[Value.string s0, .string s1, .string s2, .string s3, .string s4, .string s5, .string s6] : Array Value)[i]? = some (.string X) := by
  rcases (show i = 0 ∨ i = 1 ∨ i = 2 ∨ i = 3 ∨ i = 4 ∨ i = 5 ∨ i = 6 by omega) with rfl | rfl | rfl | rfl | rfl | rfl | rfl
  · exact ⟨_, h0, rfl⟩
  · exact ⟨_, h1, rfl⟩
  · exact ⟨_, h2, rfl⟩
  · exact ⟨_, h3, rfl⟩
  · exact ⟨_, h4, rfl⟩
  · exact ⟨_, h5, rfl⟩
  · exact ⟨_, h6, rfl⟩

set_option maxRecDepth 100000 in
set_option maxHeartbeats 8000000 in
theorem mixes_law (s t : ByteArray) (p : Nat) (w : World) (hp : p < 256) (hs : s.size ≤ maxLen) (ht : t.size ≤ maxLen) (hs2 : s.size ≤ 4611686018427387904) (ht2 : t.size ≤ 4611686018427387904) :
    Calls Try.prog 10 #[.string s, .string t, .int .u8 (p : Int)] w fun e w' => e = .returned (.bool true) ∧ Gr [] w w' := by
  have HFS := Lib.hid (fun W => full_any s W hs2)
  have HFT := Lib.hid (fun W => full_any t W ht2)
  have HF0 := Lib.hid (fun W => full_any ⟨#[]⟩ W (by show 0 ≤ _; omega))
  have HM := Lib.hid (show ∀ x y z : ByteArray, x.size ≤ maxLen → y.size ≤ maxLen → z.size ≤ maxLen → ∀ W, Calls Try.prog 41 #[.string x, .string y, .string z] W fun e w' => e = .returned (.bool (mixB x y z)) ∧ Gr [] W w' from fun x y z h1 h2 h3 W => mixed_any x y z W h1 h2 h3)
  have HRM := Lib.hid (show ∀ x y z : ByteArray, x.size ≤ maxLen → y.size ≤ maxLen → z.size ≤ maxLen → ∀ W, Calls Try.prog 42 #[.string x, .string y, .string z] W fun e w' => e = .returned (.bool (mixB x y z)) ∧ Gr [] W w' from fun x y z h1 h2 h3 W => rmixed_any x y z W h1 h2 h3)
  have HST := Lib.hid (And.intro hs ht)
  obtain ⟨A, hA⟩ : ∃ A, fullS s = A := ⟨_, rfl⟩
  obtain ⟨B, hB⟩ : ∃ B, fullS t = B := ⟨_, rfl⟩
  obtain ⟨Z, hZ⟩ : ∃ Z, fullS ⟨#[]⟩ = Z := ⟨_, rfl⟩
  have hAs : A.size = 64 := by rw [← hA]; exact fullS_size s
  have hBs : B.size = 64 := by rw [← hB]; exact fullS_size t
  have HZs := Lib.hid (show Z.size ≤ maxLen by rw [← hZ]; exact by rw [fullS_size]; unfold maxLen; omega)
  rw [hA] at HFS
  rw [hB] at HFT
  rw [hZ] at HF0
  clear hA hB hZ hs ht hs2 ht2
  go_enter Try.func10, Try.ntmps10
  go_wp2_with fail
  refine (HFS.out _).mono ?_
  rintro e w1 ⟨rfl, g1⟩
  go_wp2_with fail
  refine (HFT.out _).mono ?_
  rintro e w2 ⟨rfl, g2⟩
  have HG := Lib.hid (g1.trans g2)
  clear g1 g2
  go_wp2_with fail
  go_loopw [9, 17] (fun u z wr => ∃ (k : Nat) (G : ByteArray), k ≤ 8 ∧ u = .string G ∧ z = .int .i64 (k : Int) ∧ MixTo A B G k ∧ w2 = wr) (fun _ z _ => 8 - (intOf z).toNat)
  case atStart => exact ⟨0, ⟨#[]⟩, by omega, rfl, rfl, ⟨rfl, fun j hj => by omega⟩, rfl⟩
  case round =>
    obtain ⟨k, G, hk, rfl, rfl, hG, rfl⟩ := hrel
    by_cases hlt : k < 8
    · have hd : decide ((k : Int) < 8) = true := by simp; omega
      have hgs := hG.1
      have HNA := Lib.hid (hG.next (.inl rfl) hAs hlt)
      have HNB := Lib.hid (hG.next (.inr rfl) hBs hlt)
      clear hG
      obtain ⟨q, hq⟩ : ∃ q : Nat, q = 8 * k := ⟨_, rfl⟩
      rw [← hq] at HNA HNB hgs
      have hqz : 8 * (k : Int) = (q : Int) := by omega
      have hq0 : (0 : Int) ≤ (q : Int) := by omega
      have hq1 : (q : Int) ≤ (q : Int) + 8 := by omega
      have hq2 : (q : Int) + 8 ≤ 64 := by omega
      have hn8 : ((q : Int) + 8).toNat = q + 8 := by omega
      clear hq
      go_wp2_with fail
      · go_roundw
        case rel => exact ⟨k + 1, _, by omega, rfl, by go_num, HNB.out, by first | rfl | trivial⟩
        case measure => simp [intOf]; omega
      · go_roundw
        case rel => exact ⟨k + 1, _, by omega, rfl, by go_num, HNA.out, by first | rfl | trivial⟩
        case measure => simp [intOf]; omega
    · obtain rfl : k = 8 := by omega
      have HMX := Lib.hid hG
      have hgs : G.size = 64 := hG.1
      clear hG
      rw [show ((8 : Nat) : Int) = 8 from rfl]
      go_wp2_with fail
      go_region_held3 (fun _ : World => True) (trivial) ((first
        | (go_at_call 32; refine (HF0.out _).mono ?_; rintro e w5 ⟨rfl, q5⟩)))
      have hml : (64 : Nat) ≤ maxLen := by unfold maxLen; omega
      have hRow := str7_at G A B t s (G.extract 0 63 ++ ({ data := #[1] } : ByteArray)) Z (fun x => x.size ≤ maxLen) (by rw [hgs]; exact hml) (by rw [hAs]; exact hml) (by rw [hBs]; exact hml) HST.out.2 HST.out.1 (by rw [ByteArray.size_append, ByteArray.size_extract]; show min 63 G.size - 0 + 1 ≤ _; omega) HZs.out
      have X := Holds.new w5 #[Value.string G, Value.string A, Value.string B, Value.string t, Value.string s, Value.string (G.extract 0 63 ++ ({ data := #[1] } : ByteArray)), Value.string Z] 9
      have g5 : Gr [] w (w5.alloc (Obj.cells #[Value.string G, Value.string A, Value.string B, Value.string t, Value.string s, Value.string (G.extract 0 63 ++ ({ data := #[1] } : ByteArray)), Value.string Z] 9)) := (HG.out.trans (((Gr.refl [] w2).drew).trans q5)).alloc _
      clear q5
      generalize w5.alloc (Obj.cells #[Value.string G, Value.string A, Value.string B, Value.string t, Value.string s, Value.string (G.extract 0 63 ++ ({ data := #[1] } : ByteArray)), Value.string Z] 9) = wa at *
      generalize w5.heap.size = bs at *
      obtain ⟨R, hR⟩ : ∃ R, #[Value.string G, Value.string A, Value.string B, Value.string t, Value.string s, Value.string (G.extract 0 63 ++ ({ data := #[1] } : ByteArray)), Value.string Z] = R := ⟨_, rfl⟩
      rw [hR] at hRow X
      have HROW := Lib.hid hRow
      have HX := Lib.hid (And.intro X g5)
      have HAB := Lib.hid (And.intro hAs hBs)
      have HL := Lib.hid hml
      clear hR hRow X g5 hAs hBs hml hgs
      go_wp2_with fail
      go_loopw [55] (fun z wr => ∃ i : Nat, i ≤ 7 ∧ z = .int .i64 (i : Int) ∧ Holds wr bs R 9 ∧ Gr [] w wr) (fun z _ => 7 - (intOf z).toNat)
      case atStart => exact ⟨0, by omega, rfl, HX.out.1, HX.out.2⟩
      case round =>
        clear HX
        obtain ⟨i, hi, rfl, X, g⟩ := hrel
        by_cases hlt : i < 7
        · have hd : decide ((i : Int) < 7) = true := by simp; omega
          have hi0 : (0 : Int) ≤ (i : Int) := by omega
          have hi7 : (i : Int) < 7 := by omega
          obtain ⟨x, hx, hxe⟩ := HROW.out i hlt
          have e0 : wr.cell? ⟨bs, i, none⟩ = some (.string x) := by rw [X.cell]; exact hxe
          have HXG := Lib.hid (And.intro X g)
          have h1 := HM.out A B x (by rw [HAB.out.1]; exact HL.out) (by rw [HAB.out.2]; exact HL.out) hx
          have h2 := HRM.out A B x (by rw [HAB.out.1]; exact HL.out) (by rw [HAB.out.2]; exact HL.out) hx
          have h3 := HM.out s B x HST.out.1 (by rw [HAB.out.2]; exact HL.out) hx
          have h4 := HRM.out s B x HST.out.1 (by rw [HAB.out.2]; exact HL.out) hx
          have H1 := Lib.hid h1
          have H2 := Lib.hid h2
          have H3 := Lib.hid h3
          have H4 := Lib.hid h4
          clear X g hxe hx h1 h2 h3 h4
          generalize mixB A B x = m1 at *
          generalize mixB s B x = m2 at *
          go_wp2_with fail
          clear e0
          refine (H1.out _).mono ?_
          rintro e w6 ⟨rfl, q6⟩
          go_wp2_with fail
          refine (H2.out _).mono ?_
          rintro e w7 ⟨rfl, q7⟩
          go_wp2_with fail
          refine (H3.out _).mono ?_
          rintro e w8 ⟨rfl, q8⟩
          go_wp2_with fail
          refine (H4.out _).mono ?_
          rintro e w9 ⟨rfl, q9⟩
          have HXG := Lib.hid (And.intro ((((HXG.out.1.gr0 q6).gr0 q7).gr0 q8).gr0 q9) ((((HXG.out.2.trans q6).trans q7).trans q8).trans q9))
          clear q6 q7 q8 q9
          go_wp2_with fail
          go_roundw
          case rel => exact ⟨i + 1, by omega, by go_num, HXG.out.1, HXG.out.2⟩
          case measure => simp [intOf]; omega
        · obtain rfl : i = 7 := by omega
          have HGG := Lib.hid g
          clear X g
          rw [show ((7 : Nat) : Int) = 7 from rfl]
          go_wp2_with fail
          refine (wakes04 _).mono ?_
          rintro e w6 ⟨rfl, q6⟩
          have H1 := Lib.hid (HM.out A B G (by rw [HAB.out.1]; exact HL.out) (by rw [HAB.out.2]; exact HL.out) (by rw [HMX.out.1]; exact HL.out) w6)
          rw [HMX.out.all HAB.out.1 HAB.out.2] at H1
          have HGG := Lib.hid (HGG.out.trans q6)
          clear q6
          go_wp2_with fail
          refine H1.out.mono ?_
          rintro e w7 ⟨rfl, q7⟩
          have HGG := Lib.hid (HGG.out.trans q7)
          clear q7
          go_wp2_with fail
          go_ret
          exact ⟨rfl, HGG.out⟩
theorem walk_LineMixes (a0 a1 : ByteArray) (a2 : Int) (w0 : a0.size ≤ maxLen) (x0 : a0.size ≤ reachBytes) (w1 : a1.size ≤ maxLen) (x1 : a1.size ≤ reachBytes) (w2 : (Lit.int .u8 a2).wf = true) (w : World) :
    Calls Try.prog 10 #[.string a0, .string a1, .int .u8 a2] w fun e w' => e = .returned (.bool true) ∧ Below w.heap.size w w' := by
  obtain ⟨p, rfl, hp⟩ := natU8 w2
  exact (mixes_law a0 a1 p w hp w0 w1 (Nat.le_trans x0 (by decide)) (Nat.le_trans x1 (by decide))).mono fun _ _ q => ⟨q.1, q.2.below0⟩

end Go.Proofs.Ytphaaebbofgdnaa
