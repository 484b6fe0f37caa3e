/-
  Layer 17 (dir), the document's Put, walked.
-/
import Derived.Test.YtefiapmgdjlnnaaDoorDnAa
import Derived.Test.YtefiapmgdjlnnaaDoorDnAb
import Derived.Test.YtefiapmgdjlnnaaDoorDnAc
import Derived.Test.YtefiapmgdjlnnaaDoorDnAd
import Derived.Test.YtefiapmgdjlnnaaDoorDnAe
import Derived.Test.YtefiapmgdjlnnaaDoorDnAf
import Derived.Test.YtefiapmgdjlnnaaDoorDnAg
import Derived.Test.YtefiapmgdjlnnaaDoorDnAh
import Derived.Test.YtefiapmgdjlnnaaDoorDnAi
import Derived.Test.YtefiapmgdjlnnaaDoorDqAe

namespace Go.Proofs.YtefiapmgdjlnnaaDoor
open Go.RowKit Go.Shelf
set_option linter.unusedVariables false

/-- A directory of the document as a value. -/
abbrev dirV (ao : Option Addr) (n cap nb : Nat) : Value := .agg #[.slice ao n cap, .int .i64 (nb : Int)]
section
variable {w : World} {base : Nat} {L : List Ent} {ao : Option Addr} {cap nb : Nat}
set_option maxHeartbeats 8000000 in
set_option maxRecDepth 100000 in
theorem rput_err (s : ByteArray) (n : Int) (hs : s.size ≤ 1000) (x : Int) (hx : (nameP s.data.toList = false ∧ x = 18) ∨ (nameP s.data.toList = true ∧ ¬ (0 ≤ n ∧ n ≤ 65535) ∧ x = 2)) :
    Calls Tryd.prog 10 #[dirV ao L.length cap nb, .string s, .int .i64 n] w fun e w' => e = .returned (.tuple #[dirV ao L.length cap nb, .int .i64 x]) ∧ Gr [] w w' := by
  have HN := Lib.hid (fun W => rname_str s hs W)
  have HB := Lib.hid (And.intro ((Holds.new w #[.slice ao L.length cap, .int .i64 (nb : Int)] 27).alloc (Obj.cells #[.slice none 0 0, .int .i64 0] 27)) (And.intro (Holds.new (w.alloc (Obj.cells #[.slice ao L.length cap, .int .i64 (nb : Int)] 27)) #[.slice none 0 0, .int .i64 0] 27) (((Gr.refl [] w).alloc (Obj.cells #[.slice ao L.length cap, .int .i64 (nb : Int)] 27)).alloc (Obj.cells #[.slice none 0 0, .int .i64 0] 27))))
  rw [World.size_alloc] at HB
  go_enter Tryd.func10, Tryd.ntmps10
  go_upto_region 1 with fail
  generalize ((w.alloc (Obj.cells #[.slice ao L.length cap, .int .i64 (nb : Int)] 27)).alloc (Obj.cells #[.slice none 0 0, .int .i64 0] 27)) = w1 at *
  obtain ⟨b0, hb0⟩ : ∃ x, w.heap.size = x := ⟨_, rfl⟩
  rw [hb0] at HB ⊢
  have HB0 := Lib.hid hb0
  clear hb0
  have c0 := HB.out.1.cell 0
  have c1 := HB.out.1.cell 1
  have d0 := HB.out.2.1.cell 0
  have d1 := HB.out.2.1.cell 1
  have f0 := HB.out.2.1.frozen 0
  have f1 := HB.out.2.1.frozen 1
  have HF := Lib.hid ((HB.out.2.2.setCell (p := ⟨b0 + 1, 0, none⟩) (.inr (by have := HB0.out; show _ ≤ b0 + 1; omega)) (.slice ao L.length cap)).setCell (p := ⟨b0 + 1, 1, none⟩) (.inr (by have := HB0.out; show _ ≤ b0 + 1; omega)) (.int .i64 (nb : Int)))
  rcases hx with ⟨hn, rfl⟩ | ⟨hn, hv, rfl⟩
  · have e : nmE s.data.toList = 18 := by unfold nmE; rw [hn]; rfl
    rw [e] at HN
    clear hn e
    go_wp2_with fail
    refine (HN.out _).mono ?_
    rintro e w2 ⟨rfl, rfl⟩
    go_wp2_with fail
    exact bodyPost_ret (v := .tuple #[dirV ao L.length cap nb, .int .i64 18]) (by simp [results, Tryd.results10, go_sem, *]) rfl ⟨rfl, HF.out⟩
  · have e : nmE s.data.toList = 0 := by unfold nmE; rw [hn]; rfl
    rw [e] at HN
    clear hn e
    go_wp2_with fail
    refine (HN.out _).mono ?_
    rintro e w2 ⟨rfl, rfl⟩
    by_cases h1 : n < 0
    · clear hv
      go_wp2_with fail
      exact bodyPost_ret (v := .tuple #[dirV ao L.length cap nb, .int .i64 2]) (by simp [results, Tryd.results10, go_sem, *]) rfl ⟨rfl, HF.out⟩
    · have h2 : 65535 < n := by omega
      clear hv
      go_wp2_with fail
      exact bodyPost_ret (v := .tuple #[dirV ao L.length cap nb, .int .i64 2]) (by simp [results, Tryd.results10, go_sem, *]) rfl ⟨rfl, HF.out⟩
/-- How many buckets the document has behind a Put. -/
def growE (nb : Nat) (L M : List Ent) : Nat := if L.length < M.length ∧ 4 * nb < M.length then 2 * nb else nb
theorem take_snoc {α : Type} (L : List α) (i : Nat) (h : i < L.length) : L.take (i + 1) = L.take i ++ [L[i]] := List.take_succ_eq_append_getElem h
theorem oneE (s : ByteArray) (n : Nat) : ∀ u ∈ [Value.string s, Value.int .i64 (n : Int)], u.oneCell' = true := by simp [Value.oneCell']
theorem own_shape {w : World} {base T k n : Nat} {v : Value} {l : List Value} (h : w.ownsRow base T k v n l) : ∃ ao cap, v = .slice ao n cap := by
  rcases h.2 with ⟨rfl, e⟩ | ⟨g, cap, cur, rfl, _⟩
  · exact ⟨none, 0, by rw [e]⟩
  · exact ⟨_, _, rfl⟩
set_option maxHeartbeats 40000000 in
set_option maxRecDepth 100000 in
theorem rput_ok (h : EntR w base (.slice ao L.length cap) L) (hup : L.Pairwise ltE) (hL : L.length ≤ 100000) (hnb : nb ≤ 65536) (hlv : ∀ g, (Value.slice ao L.length cap).ownBlock = some g → g < w.heap.size) (s : ByteArray) (n : Nat) (hn : nameP s.data.toList = true) (hv : n ≤ 65535) :
    Calls Tryd.prog 10 #[dirV ao L.length cap nb, .string s, .int .i64 (n : Int)] w fun e w' => ∃ ao' cap', e = .returned (.tuple #[dirV ao' (insE L s n).length cap' (growE nb L (insE L s n)), .int .i64 0]) ∧ EntR w' w.heap.size (.slice ao' (insE L s n).length cap') (insE L s n) ∧ Gr [] w w' := by
  obtain ⟨i0, hi, hz0, hz1, hz2⟩ := info_parts infoR17
  have HIN := Lib.hid (And.intro hi (And.intro hz0 (And.intro hz1 hz2)))
  have HN := Lib.hid (fun W => rname_str s (by have := nameP_size hn; omega) W)
  have e : nmE s.data.toList = 0 := by unfold nmE; rw [hn]; rfl
  rw [e] at HN
  have H1 := Lib.hid (show RpI w (((w.alloc (Obj.cells #[.slice ao L.length cap, .int .i64 (nb : Int)] 27)).alloc (Obj.cells #[.slice none 0 0, .int .i64 0] 27)).alloc (Obj.cells #[.slice none 0 0, .int .i64 (nb : Int)] 27)) base w.heap.size (w.heap.size + 1) (w.heap.size + 2) (.slice ao L.length cap) (.slice none 0 0) (nb : Int) L [] from by
    have g1 := (Gr.refl [] w).alloc (Obj.cells #[.slice ao L.length cap, .int .i64 (nb : Int)] 27)
    have g2 := g1.alloc (Obj.cells #[.slice none 0 0, .int .i64 0] 27)
    have g3 := g2.alloc (Obj.cells #[.slice none 0 0, .int .i64 (nb : Int)] 27)
    refine ⟨g3, h.gr0 g3, ((Holds.new w _ _).alloc _).alloc _, ?_, ?_, World.ownsRow_nil _ _ _ _, ⟨Nat.le_refl _, by omega, by omega⟩, hlv⟩
    · have r := (Holds.new (w.alloc (Obj.cells #[.slice ao L.length cap, .int .i64 (nb : Int)] 27)) #[.slice none 0 0, .int .i64 0] 27).alloc (Obj.cells #[.slice none 0 0, .int .i64 (nb : Int)] 27)
      rw [World.size_alloc] at r
      exact r
    · have r := Holds.new ((w.alloc (Obj.cells #[.slice ao L.length cap, .int .i64 (nb : Int)] 27)).alloc (Obj.cells #[.slice none 0 0, .int .i64 0] 27)) #[.slice none 0 0, .int .i64 (nb : Int)] 27
      rw [World.size_alloc, World.size_alloc] at r
      exact r)
  have HU := Lib.hid (And.intro hup (And.intro hL hnb))
  have HNV := Lib.hid (And.intro hn hv)
  have c1 : ((w.alloc (Obj.cells #[.slice ao L.length cap, .int .i64 (nb : Int)] 27)).alloc (Obj.cells #[.slice none 0 0, .int .i64 0] 27)).cell? ⟨w.heap.size, 1, none⟩ = some (.int .i64 (nb : Int)) := ((Holds.new w #[.slice ao L.length cap, .int .i64 (nb : Int)] 27).alloc _).cell 1
  clear e hi hz0 hz1 hz2 h hup hnb hlv hn
  go_enter Tryd.func10, Tryd.ntmps10
  go_wp2_with fail
  refine (HN.out _).mono ?_
  rintro e w2 ⟨rfl, hw2⟩
  have hs2 : w2.heap.size = w.heap.size + 2 := by rw [hw2, World.size_alloc, World.size_alloc]
  rw [← hw2] at c1 H1
  clear hw2 HN
  go_upto_region 9 with fail
  generalize (w2.alloc (Obj.cells #[.slice none 0 0, .int .i64 (nb : Int)] 27)) = w3 at *
  try rw [hs2]
  obtain ⟨b0, hb0⟩ : ∃ x, w.heap.size = x := ⟨_, rfl⟩
  rw [hb0] at H1 ⊢
  have HB0 := Lib.hid hb0
  clear hb0 c1 hs2
  go_loopw [10, 11] (fun dv z wr => ∃ (i : Nat) (v : Value), i ≤ L.length ∧ z = .int .i64 (i : Int) ∧ dv = .bool (anyG (L.take i) s) ∧ RpI w wr base b0 (b0 + 1) (b0 + 2) (.slice ao L.length cap) v (nb : Int) L (outE (L.take i) s n)) (fun _ z _ => L.length - (intOf z).toNat)
  case atStart => exact ⟨0, _, by omega, rfl, rfl, by rw [show outE (L.take 0) s n = [] from rfl]; exact H1.out⟩
  case round =>
    clear H1
    obtain ⟨i, v, hi, rfl, rfl, Q⟩ := hrel
    have HQ := Lib.hid Q
    clear Q
    have cb := HQ.out.bx.cell 0
    by_cases hlt : i < L.length
    · as_aux_lemma =>
        obtain ⟨g, cap2, e, _, hg2, ca, cn⟩ := HQ.out.old.at' hlt
        injection e with e1 _ e2
        subst e1
        have ib : (i : Int) < (L.length : Int) := by omega
        have ib0 : (0 : Int) ≤ (i : Int) := by omega
        have hsorted : (L.take i ++ [L[i]]).Pairwise ltE := by rw [← take_snoc L i hlt]; exact HU.out.1.sublist (List.take_sublist _ _)
        have HTk := Lib.hid (take_snoc L i hlt)
        obtain ⟨x, hx⟩ : ∃ x, x = L[i] := ⟨_, rfl⟩
        have HX := Lib.hid hx
        rw [← hx] at ca cn hsorted HTk
        have HS := Lib.hid hsorted
        have hbl : Op.bytesLess x.1.toList s.toList = ltP s x := by rw [bytesLess_eq, Lib.toList_data, Lib.toList_data]; rfl
        have hlen : (outE (L.take i) s n).length ≤ 100001 := by
          have h1 : (L.take i).length ≤ 100000 := by rw [List.length_take]; have := HU.out.2.1; omega
          have := outE_len (L.take i) s n
          omega
        obtain ⟨O, hO⟩ : ∃ O, O = outE (L.take i) s n := ⟨_, rfl⟩
        rw [← hO] at HQ hlen
        have HO := Lib.hid hO
        obtain ⟨d, hd⟩ : ∃ d, d = anyG (L.take i) s := ⟨_, rfl⟩
        rw [← hd]
        have HD := Lib.hid hd
        clear hx hsorted hO hd e2
        obtain ⟨O1, hO1⟩ : ∃ O1, O1 = if d = false ∧ ltP s x = false then O ++ [(s, n)] else O := ⟨_, rfl⟩
        have HST := Lib.hid (show outE (L.take (i + 1)) s n = O1 ++ (if x.1 = s then [] else [x]) ∧ anyG (L.take (i + 1)) s = (d || !ltP s x) from by
          rw [HTk.out, outE_step HS.out, anyG_app, ← HD.out, hO1, HO.out]
          exact ⟨rfl, rfl⟩)
        have hlen1 : O1.length ≤ 100002 := by
          rw [hO1]
          split
          · rw [List.length_append]; simp; omega
          · omega
        have HL1 := Lib.hid hlen1
        clear HO HTk HS HD ca cn hg2
        cases d with
        | true =>
          obtain rfl : O1 = O := by rw [hO1, if_neg (by simp)]
          rw [show (true || !ltP s x) = true from rfl] at HST
          have HR := HQ
          clear hO1 hbl
          go_upto_region 14 with fail
          obtain ⟨g_, _, e_, _, hg2, ca, cn⟩ := HR.out.old.at' hlt
          have hgg : g_ = g := by injection e_ with e_; injection e_ with e_; injection e_ with e_; exact e_.symm
          rw [hgg] at hg2 ca cn
          clear hgg
          rw [← HX.out] at ca cn
          clear e_
          have cb := HR.out.bx.cell 0
          obtain ⟨xs, xn⟩ := x
          dsimp only at ca cn HST
          by_cases hxs : xs = s
          · have he : (xs.toList == s.toList) = true := by rw [hxs]; simp
            have HE := Lib.hid hxs
            clear hxs
            go_wp2_with fail
            go_roundw
            case rel => exact ⟨i + 1, v, by omega, by go_num, by rw [HST.out.2], by rw [HST.out.1, if_pos HE.out, List.append_nil]; exact HR.out⟩
            case measure => simp [intOf]; omega
          · have he : (xs.toList == s.toList) = false := by
              rw [Lib.toList_data, Lib.toList_data, beq_eq_false_iff_ne]
              exact fun q => hxs (seq17 q)
            have HE := Lib.hid hxs
            clear hxs
            go_upto_region 15 with fail
            obtain ⟨hi0, hz0, hz1, hz2⟩ := HIN.out
            have co := HR.out.out.cell 0
            have hlw := HR.out.lo
            have gd := (Gr.refl [] wr).drew
            have ga := (Gr.refl [] wr).alloc (Obj.cells #[.string xs, .int .i64 (xn : Int)] 41)
            have gda := gd.alloc (Obj.cells #[.string xs, .int .i64 (xn : Int)] 41)
            have hbw := HR.out.bx.lt
            have how := HR.out.out.lt
            have a1 := (gd.cell0 hbw).trans cb
            have a2 := (gd.cell0 how).trans co
            have a3 := (gd.cell0 hg2).trans ca
            have a4 := (gd.cell0 hg2).trans cn
            have b1 := (ga.cell0 hbw).trans cb
            have b2 := (ga.cell0 how).trans co
            have b3 := (ga.cell0 hg2).trans ca
            have b4 := (ga.cell0 hg2).trans cn
            have d1 := (gda.cell0 hbw).trans cb
            have d2 := (gda.cell0 how).trans co
            have d3 := (gda.cell0 hg2).trans ca
            have d4 := (gda.cell0 hg2).trans cn
            have HGa := Lib.hid ga
            have hbs : b0 + 2 + 1 ≤ (wr.alloc (Obj.cells #[.string xs, .int .i64 (xn : Int)] 41)).heap.size := by rw [World.size_alloc]; omega
            have HBS := Lib.hid hbs
            clear gd ga gda hbs
            go_region_law ((have hT3 := HR.out.own.gr0 HGa.out; have hn3 := World.news_of_block (Go.Proofs.YtefiapmgdjlnnaaDoor.Holds.new wr #[.string xs, .int .i64 (xn : Int)] 41); refine step_append_lies _ rfl _ _ 25 rfl (b0 + 2 + 1) 41 i0 _ 2 24 Tryd.underlying25 hi0 hz0 hz1 hz2 rfl (by decide) v O1.length (flatE O1) rfl hT3 ⟨wr.heap.size, 0, none⟩ 1 1 [.string xs, .int .i64 (xn : Int)] rfl rfl hn3 (oneE xs xn) Nat.one_pos (by unfold maxLen; omega) (by omega) HBS.out _ rfl ?_; intro g6 cp6 w7 hown6 hgrow6 hat6 hlt6; have HR7 := Lib.hid (HR.out.snoc (x := (xs, xn)) HGa.out.drew hgrow6 hown6); have h7 := HR.out.held HGa.out.drew hgrow6; have o7 := h7.cell 0; have f7 := h7.frozen 0; clear hown6 hgrow6 hat6 hlt6 h7 hT3 hn3))
            all_goals
              go_wp2_with fail
              go_roundw
              case rel => exact ⟨i + 1, _, by omega, by go_num, by rw [HST.out.2], by rw [HST.out.1, if_neg HE.out]; exact HR7.out⟩
              case measure => simp [intOf]; omega
        | false =>
          obtain ⟨g_, _, e_, _, hg2, ca, cn⟩ := HQ.out.old.at' hlt
          have hgg : g_ = g := by injection e_ with e_; injection e_ with e_; injection e_ with e_; exact e_.symm
          rw [hgg] at hg2 ca cn
          clear hgg
          rw [← HX.out] at ca cn
          clear e_
          cases c : ltP s x with
          | true =>
            obtain rfl : O1 = O := by rw [hO1, if_neg (by rw [c]; simp)]
            rw [c] at hbl
            rw [c, show (false || !true) = false from rfl] at HST
            have HR := HQ
            clear hO1
            go_upto_region 14 with fail
            obtain ⟨g_, _, e_, _, hg2, ca, cn⟩ := HR.out.old.at' hlt
            have hgg : g_ = g := by injection e_ with e_; injection e_ with e_; injection e_ with e_; exact e_.symm
            rw [hgg] at hg2 ca cn
            clear hgg
            rw [← HX.out] at ca cn
            clear e_
            have cb := HR.out.bx.cell 0
            obtain ⟨xs, xn⟩ := x
            dsimp only at ca cn HST
            by_cases hxs : xs = s
            · have he : (xs.toList == s.toList) = true := by rw [hxs]; simp
              have HE := Lib.hid hxs
              clear hxs
              go_wp2_with fail
              go_roundw
              case rel => exact ⟨i + 1, v, by omega, by go_num, by rw [HST.out.2], by rw [HST.out.1, if_pos HE.out, List.append_nil]; exact HR.out⟩
              case measure => simp [intOf]; omega
            · have he : (xs.toList == s.toList) = false := by
                rw [Lib.toList_data, Lib.toList_data, beq_eq_false_iff_ne]
                exact fun q => hxs (seq17 q)
              have HE := Lib.hid hxs
              clear hxs
              go_upto_region 15 with fail
              obtain ⟨hi0, hz0, hz1, hz2⟩ := HIN.out
              have co := HR.out.out.cell 0
              have hlw := HR.out.lo
              have gd := (Gr.refl [] wr).drew
              have ga := (Gr.refl [] wr).alloc (Obj.cells #[.string xs, .int .i64 (xn : Int)] 41)
              have gda := gd.alloc (Obj.cells #[.string xs, .int .i64 (xn : Int)] 41)
              have hbw := HR.out.bx.lt
              have how := HR.out.out.lt
              have a1 := (gd.cell0 hbw).trans cb
              have a2 := (gd.cell0 how).trans co
              have a3 := (gd.cell0 hg2).trans ca
              have a4 := (gd.cell0 hg2).trans cn
              have b1 := (ga.cell0 hbw).trans cb
              have b2 := (ga.cell0 how).trans co
              have b3 := (ga.cell0 hg2).trans ca
              have b4 := (ga.cell0 hg2).trans cn
              have d1 := (gda.cell0 hbw).trans cb
              have d2 := (gda.cell0 how).trans co
              have d3 := (gda.cell0 hg2).trans ca
              have d4 := (gda.cell0 hg2).trans cn
              have HGa := Lib.hid ga
              have hbs : b0 + 2 + 1 ≤ (wr.alloc (Obj.cells #[.string xs, .int .i64 (xn : Int)] 41)).heap.size := by rw [World.size_alloc]; omega
              have HBS := Lib.hid hbs
              clear gd ga gda hbs
              go_region_law ((have hT3 := HR.out.own.gr0 HGa.out; have hn3 := World.news_of_block (Go.Proofs.YtefiapmgdjlnnaaDoor.Holds.new wr #[.string xs, .int .i64 (xn : Int)] 41); refine step_append_lies _ rfl _ _ 25 rfl (b0 + 2 + 1) 41 i0 _ 2 24 Tryd.underlying25 hi0 hz0 hz1 hz2 rfl (by decide) v O1.length (flatE O1) rfl hT3 ⟨wr.heap.size, 0, none⟩ 1 1 [.string xs, .int .i64 (xn : Int)] rfl rfl hn3 (oneE xs xn) Nat.one_pos (by unfold maxLen; omega) (by omega) HBS.out _ rfl ?_; intro g6 cp6 w7 hown6 hgrow6 hat6 hlt6; have HR7 := Lib.hid (HR.out.snoc (x := (xs, xn)) HGa.out.drew hgrow6 hown6); have h7 := HR.out.held HGa.out.drew hgrow6; have o7 := h7.cell 0; have f7 := h7.frozen 0; clear hown6 hgrow6 hat6 hlt6 h7 hT3 hn3))
              all_goals
                go_wp2_with fail
                go_roundw
                case rel => exact ⟨i + 1, _, by omega, by go_num, by rw [HST.out.2], by rw [HST.out.1, if_neg HE.out]; exact HR7.out⟩
                case measure => simp [intOf]; omega
          | false =>
            have e1 : O1 = O ++ [(s, n)] := by rw [hO1, if_pos ⟨rfl, c⟩]
            rw [c] at hbl
            rw [c, show (false || !false) = true from rfl] at HST
            obtain ⟨hi0, hz0, hz1, hz2⟩ := HIN.out
            have hA := (Gr.refl [] wr).alloc (Obj.cells #[.string s, .int .i64 (n : Int)] 41)
            have hown := HQ.out.own.gr0 hA
            have hsz := HQ.out.lo
            have hlt2 := HQ.out.out.lt
            have co := HQ.out.out.cell 0
            have HA := Lib.hid hA
            have HE1 := Lib.hid e1
            clear hO1 hA e1
            have hnews := World.news_of_block (Go.Proofs.YtefiapmgdjlnnaaDoor.Holds.new wr #[.string s, .int .i64 (n : Int)] 41)
            have hc3 : O.length + 1 ≤ maxLen := by unfold maxLen; omega
            have hc4 : (O.length + 1) * 24 ≤ 140737488355328 := by omega
            have hc5 : b0 + 2 + 1 ≤ (wr.alloc (Obj.cells #[.string s, .int .i64 (n : Int)] 41)).heap.size := by rw [World.size_alloc]; omega
            have HNw := Lib.hid (And.intro hnews (And.intro hc3 (And.intro hc4 hc5)))
            clear hnews hc3 hc4 hc5
            go_upto_region 13 with (at_builtin; refine wpList_append_own _ rfl _ _ 25 rfl (b0 + 2 + 1) 41 i0 _ 2 24 Tryd.underlying25 hi0 hz0 hz1 hz2 rfl (by decide) _ _ _ rfl hown ⟨wr.heap.size, 0, none⟩ 1 1 [.string s, .int .i64 (n : Int)] rfl rfl HNw.out.1 (oneE s n) HNw.out.2.1 HNw.out.2.2.1 HNw.out.2.2.2 ?_; intro v' w7 hown7 hgrow hnn7; obtain ⟨ao7, cap7, hv7⟩ := own_shape hown7; subst hv7; have h7 := HQ.out.held HA.out hgrow; have o7 := h7.cell 0; have f7 := h7.frozen 0)
            have HR7 := Lib.hid (HQ.out.snoc (x := (s, n)) HA.out hgrow hown7)
            clear hown7 hgrow h7 HNw
            rw [← HE1.out] at HR7
            generalize (w7.setCell ⟨b0 + 2, 0, none⟩ (.slice ao7 (O.length + 1) cap7)) = wc at *
            have HR := HR7
            clear HR7 HQ HA HE1 o7 f7 co hown hlt2 hg2 ca cn
            have cb := HR.out.bx.cell 0
            go_upto_region 14 with fail
            clear cb hi0 hz0 hz1 hz2
            obtain ⟨g_, _, e_, _, hg2, ca, cn⟩ := HR.out.old.at' hlt
            have hgg : g_ = g := by injection e_ with e_; injection e_ with e_; injection e_ with e_; exact e_.symm
            rw [hgg] at hg2 ca cn
            clear hgg
            rw [← HX.out] at ca cn
            clear e_
            have cb := HR.out.bx.cell 0
            obtain ⟨xs, xn⟩ := x
            dsimp only at ca cn HST
            by_cases hxs : xs = s
            · have he : (xs.toList == s.toList) = true := by rw [hxs]; simp
              have HE := Lib.hid hxs
              clear hxs
              go_wp2_with fail
              go_roundw
              case rel => exact ⟨i + 1, (.slice ao7 (O.length + 1) cap7), by omega, by go_num, by rw [HST.out.2], by rw [HST.out.1, if_pos HE.out, List.append_nil]; exact HR.out⟩
              case measure => simp [intOf]; omega
            · have he : (xs.toList == s.toList) = false := by
                rw [Lib.toList_data, Lib.toList_data, beq_eq_false_iff_ne]
                exact fun q => hxs (seq17 q)
              have HE := Lib.hid hxs
              clear hxs
              go_upto_region 15 with fail
              obtain ⟨hi0, hz0, hz1, hz2⟩ := HIN.out
              have co := HR.out.out.cell 0
              have hlw := HR.out.lo
              have gd := (Gr.refl [] wc).drew
              have ga := (Gr.refl [] wc).alloc (Obj.cells #[.string xs, .int .i64 (xn : Int)] 41)
              have gda := gd.alloc (Obj.cells #[.string xs, .int .i64 (xn : Int)] 41)
              have hbw := HR.out.bx.lt
              have how := HR.out.out.lt
              have a1 := (gd.cell0 hbw).trans cb
              have a2 := (gd.cell0 how).trans co
              have a3 := (gd.cell0 hg2).trans ca
              have a4 := (gd.cell0 hg2).trans cn
              have b1 := (ga.cell0 hbw).trans cb
              have b2 := (ga.cell0 how).trans co
              have b3 := (ga.cell0 hg2).trans ca
              have b4 := (ga.cell0 hg2).trans cn
              have d1 := (gda.cell0 hbw).trans cb
              have d2 := (gda.cell0 how).trans co
              have d3 := (gda.cell0 hg2).trans ca
              have d4 := (gda.cell0 hg2).trans cn
              have HGa := Lib.hid ga
              have hbs : b0 + 2 + 1 ≤ (wc.alloc (Obj.cells #[.string xs, .int .i64 (xn : Int)] 41)).heap.size := by rw [World.size_alloc]; omega
              have HBS := Lib.hid hbs
              clear gd ga gda hbs
              go_region_law ((have hT3 := HR.out.own.gr0 HGa.out; have hn3 := World.news_of_block (Go.Proofs.YtefiapmgdjlnnaaDoor.Holds.new wc #[.string xs, .int .i64 (xn : Int)] 41); refine step_append_lies _ rfl _ _ 25 rfl (b0 + 2 + 1) 41 i0 _ 2 24 Tryd.underlying25 hi0 hz0 hz1 hz2 rfl (by decide) (.slice ao7 (O.length + 1) cap7) O1.length (flatE O1) rfl hT3 ⟨wc.heap.size, 0, none⟩ 1 1 [.string xs, .int .i64 (xn : Int)] rfl rfl hn3 (oneE xs xn) Nat.one_pos (by unfold maxLen; omega) (by omega) HBS.out _ rfl ?_; intro g6 cp6 w7 hown6 hgrow6 hat6 hlt6; have HR7 := Lib.hid (HR.out.snoc (x := (xs, xn)) HGa.out.drew hgrow6 hown6); have h7 := HR.out.held HGa.out.drew hgrow6; have o7 := h7.cell 0; have f7 := h7.frozen 0; clear hown6 hgrow6 hat6 hlt6 h7 hT3 hn3))
              all_goals
                go_wp2_with fail
                go_roundw
                case rel => exact ⟨i + 1, _, by omega, by go_num, by rw [HST.out.2], by rw [HST.out.1, if_neg HE.out]; exact HR7.out⟩
                case measure => simp [intOf]; omega
    · obtain rfl : i = L.length := by omega
      rw [List.take_length] at HQ ⊢
      have HAll := outE_all L s n
      have hol := outE_len L s n
      obtain ⟨O, hO⟩ : ∃ O, O = outE L s n := ⟨_, rfl⟩
      obtain ⟨d, hd⟩ : ∃ d, d = anyG L s := ⟨_, rfl⟩
      obtain ⟨M, hM⟩ : ∃ M, M = insE L s n := ⟨_, rfl⟩
      rw [← hO] at HQ hol
      rw [← hO, ← hd, ← hM] at HAll
      rw [← hd]
      have HMM := Lib.hid hM
      have hLb := HU.out.2.1
      have hNb := HU.out.2.2
      have hgb := HB0.out
      have HB0 := Lib.hid hgb
      clear hO hd hM hgb hlt hi
      cases d with
      | true =>
        have hOM : O = M := HAll
        rw [hOM] at HQ hol
        have hML : M.length ≤ 100002 := by omega
        have HR := HQ
        clear HAll hOM
        go_upto_region 18 with fail
        obtain ⟨ao2, cap2, hv2⟩ := HR.out.own.shape
        subst hv2
        have hlo := HR.out.lo
        have o0 := HR.out.out.cell 0
        have o1 := HR.out.out.cell 1
        have fo1 := HR.out.out.frozen 1
        have cb := HR.out.bx.cell 0
        have HML := Lib.hid hML
        by_cases hg : L.length < M.length ∧ 4 * nb < M.length
        · have HGE := Lib.hid (show growE nb L M = 2 * nb from if_pos hg)
          have b1 : (L.length : Int) < (M.length : Int) := by omega
          have b2 : 4 * (nb : Int) < (M.length : Int) := by omega
          have HZ := Lib.hid (show Holds (wr.setCell ⟨b0 + 2, 1, none⟩ (.int .i64 (2 * (nb : Int)))) (b0 + 2) #[.slice ao2 M.length cap2, .int .i64 (2 * (nb : Int))] 27 ∧ Holds (wr.setCell ⟨b0 + 2, 1, none⟩ (.int .i64 (2 * (nb : Int)))) (b0 + 1) #[.slice none 0 0, .int .i64 0] 27 ∧ Gr [] w (wr.setCell ⟨b0 + 2, 1, none⟩ (.int .i64 (2 * (nb : Int)))) ∧ EntR (wr.setCell ⟨b0 + 2, 1, none⟩ (.int .i64 (2 * (nb : Int)))) (b0 + 2 + 1) (.slice ao2 M.length cap2) M from by
            have g3 : Gr [b0 + 2] wr (wr.setCell ⟨b0 + 2, 1, none⟩ (.int .i64 (2 * (nb : Int)))) := (Gr.refl _ _).setCell (p := ⟨b0 + 2, 1, none⟩) (.inl (List.mem_singleton.2 rfl)) _
            refine ⟨?_, HR.out.rs.gr g3 (by simp), HR.out.gr.nextN g3 fun x hx => .inr (by rw [List.mem_singleton] at hx; omega), HR.out.own.gr g3 fun b hb e => by rw [List.mem_singleton] at e; have := (HR.out.own.lt b hb).1; omega⟩
            have r := HR.out.out.set 1 (.int .i64 (2 * (nb : Int)))
            simpa using r)
          clear hg
          go_upto_region 20 with fail
          generalize (wr.setCell ⟨b0 + 2, 1, none⟩ (.int .i64 (2 * (nb : Int)))) = wz at *
          clear o0 o1 fo1 cb b1 b2
          have o0 := HZ.out.1.cell 0
          have o1 := HZ.out.1.cell 1
          have r0 := HZ.out.2.1.cell 0
          have r1 := HZ.out.2.1.cell 1
          have f0 := HZ.out.2.1.frozen 0
          have f1 := HZ.out.2.1.frozen 1
          have HF := Lib.hid (show Gr [] w ((wz.setCell ⟨b0 + 1, 0, none⟩ (.slice ao2 M.length cap2)).setCell ⟨b0 + 1, 1, none⟩ (.int .i64 (2 * (nb : Int)))) ∧ EntR ((wz.setCell ⟨b0 + 1, 0, none⟩ (.slice ao2 M.length cap2)).setCell ⟨b0 + 1, 1, none⟩ (.int .i64 (2 * (nb : Int)))) (b0 + 2 + 1) (.slice ao2 M.length cap2) M from by
            have g3 : Gr [b0 + 1] wz ((wz.setCell ⟨b0 + 1, 0, none⟩ (.slice ao2 M.length cap2)).setCell ⟨b0 + 1, 1, none⟩ (.int .i64 (2 * (nb : Int)))) := ((Gr.refl _ _).setCell (p := ⟨b0 + 1, 0, none⟩) (.inl (List.mem_singleton.2 rfl)) _).setCell (p := ⟨b0 + 1, 1, none⟩) (.inl (List.mem_singleton.2 rfl)) _
            exact ⟨HZ.out.2.2.1.nextN g3 fun x hx => .inr (by rw [List.mem_singleton] at hx; omega), HZ.out.2.2.2.gr g3 fun b hb e => by rw [List.mem_singleton] at e; have := (HZ.out.2.2.2.lt b hb).1; omega⟩)
          have hb0w : w.heap.size = b0 := HB0.out
          have HBW := Lib.hid hb0w
          clear hb0w
          go_wp2_with fail
          refine bodyPost_ret (v := .tuple #[.agg #[.slice ao2 M.length cap2, .int .i64 (2 * (nb : Int))], .int .i64 0]) (by simp [results, Tryd.results10, go_sem, *]) rfl ⟨ao2, cap2, ?_, ?_, HF.out.1⟩
          · rw [← HMM.out, HGE.out]
            rfl
          · rw [← HMM.out]
            exact ⟨HF.out.2.1, by rcases HF.out.2.2 with q | ⟨g1, c1, cu, q1, q2, q3⟩; exact .inl q; exact .inr ⟨g1, c1, cu, q1, by have := HBW.out; omega, q3⟩⟩
        · have HGE := Lib.hid (show growE nb L M = nb from if_neg hg)
          have r0 := HR.out.rs.cell 0
          have r1 := HR.out.rs.cell 1
          have f0 := HR.out.rs.frozen 0
          have f1 := HR.out.rs.frozen 1
          have HF := Lib.hid (show Gr [] w ((wr.setCell ⟨b0 + 1, 0, none⟩ (.slice ao2 M.length cap2)).setCell ⟨b0 + 1, 1, none⟩ (.int .i64 (nb : Int))) ∧ EntR ((wr.setCell ⟨b0 + 1, 0, none⟩ (.slice ao2 M.length cap2)).setCell ⟨b0 + 1, 1, none⟩ (.int .i64 (nb : Int))) (b0 + 2 + 1) (.slice ao2 M.length cap2) M from by
            have g3 : Gr [b0 + 1] wr ((wr.setCell ⟨b0 + 1, 0, none⟩ (.slice ao2 M.length cap2)).setCell ⟨b0 + 1, 1, none⟩ (.int .i64 (nb : Int))) := ((Gr.refl _ _).setCell (p := ⟨b0 + 1, 0, none⟩) (.inl (List.mem_singleton.2 rfl)) _).setCell (p := ⟨b0 + 1, 1, none⟩) (.inl (List.mem_singleton.2 rfl)) _
            exact ⟨HR.out.gr.nextN g3 fun x hx => .inr (by rw [List.mem_singleton] at hx; omega), HR.out.own.gr g3 fun b hb e => by rw [List.mem_singleton] at e; have := (HR.out.own.lt b hb).1; omega⟩)
          have HBW := Lib.hid HB0.out
          by_cases hg1 : L.length < M.length
          · have b1 : (L.length : Int) < (M.length : Int) := by omega
            have b2 : (M.length : Int) ≤ 4 * (nb : Int) := by omega
            clear hg
            go_wp2_with fail
            refine bodyPost_ret (v := .tuple #[.agg #[.slice ao2 M.length cap2, .int .i64 (nb : Int)], .int .i64 0]) (by simp [results, Tryd.results10, go_sem, *]) rfl ⟨ao2, cap2, ?_, ?_, HF.out.1⟩
            · rw [← HMM.out, HGE.out]
            · rw [← HMM.out]
              exact ⟨HF.out.2.1, by rcases HF.out.2.2 with q | ⟨g1, c1, cu, q1, q2, q3⟩; exact .inl q; exact .inr ⟨g1, c1, cu, q1, by have := HBW.out; omega, q3⟩⟩
          · have b1 : (M.length : Int) ≤ (L.length : Int) := by omega
            clear hg
            go_wp2_with fail
            refine bodyPost_ret (v := .tuple #[.agg #[.slice ao2 M.length cap2, .int .i64 (nb : Int)], .int .i64 0]) (by simp [results, Tryd.results10, go_sem, *]) rfl ⟨ao2, cap2, ?_, ?_, HF.out.1⟩
            · rw [← HMM.out, HGE.out]
            · rw [← HMM.out]
              exact ⟨HF.out.2.1, by rcases HF.out.2.2 with q | ⟨g1, c1, cu, q1, q2, q3⟩; exact .inl q; exact .inr ⟨g1, c1, cu, q1, by have := HBW.out; omega, q3⟩⟩
      | false =>
        have HE1 := Lib.hid (show O ++ [(s, n)] = M from HAll)
        have hML : M.length ≤ 100002 := by rw [← HE1.out, List.length_append]; simp; omega
        obtain ⟨hi0, hz0, hz1, hz2⟩ := HIN.out
        have hA := (Gr.refl [] wr).alloc (Obj.cells #[.string s, .int .i64 (n : Int)] 41)
        have hown := HQ.out.own.gr0 hA
        have hsz := HQ.out.lo
        have hlt2 := HQ.out.out.lt
        have co := HQ.out.out.cell 0
        have HA := Lib.hid hA
        have hnews := World.news_of_block (Go.Proofs.YtefiapmgdjlnnaaDoor.Holds.new wr #[.string s, .int .i64 (n : Int)] 41)
        have hc3 : O.length + 1 ≤ maxLen := by unfold maxLen; omega
        have hc4 : (O.length + 1) * 24 ≤ 140737488355328 := by omega
        have hc5 : b0 + 2 + 1 ≤ (wr.alloc (Obj.cells #[.string s, .int .i64 (n : Int)] 41)).heap.size := by rw [World.size_alloc]; omega
        have HNw := Lib.hid (And.intro hnews (And.intro hc3 (And.intro hc4 hc5)))
        clear hnews hc3 hc4 hc5 hA HAll
        go_upto_region 18 with (at_builtin; refine wpList_append_own _ rfl _ _ 25 rfl (b0 + 2 + 1) 41 i0 _ 2 24 Tryd.underlying25 hi0 hz0 hz1 hz2 rfl (by decide) _ _ _ rfl hown ⟨wr.heap.size, 0, none⟩ 1 1 [.string s, .int .i64 (n : Int)] rfl rfl HNw.out.1 (oneE s n) HNw.out.2.1 HNw.out.2.2.1 HNw.out.2.2.2 ?_; intro v' w7 hown7 hgrow hnn7; obtain ⟨ao7, cap7, hv7⟩ := own_shape hown7; subst hv7; have h7 := HQ.out.held HA.out hgrow; have o7 := h7.cell 0; have f7 := h7.frozen 0)
        have HR7 := Lib.hid (HQ.out.snoc (x := (s, n)) HA.out hgrow hown7)
        clear hown7 hgrow h7 HNw
        rw [HE1.out] at HR7
        generalize (w7.setCell ⟨b0 + 2, 0, none⟩ (.slice ao7 (O.length + 1) cap7)) = wc at *
        have hlm : O.length + 1 = M.length := by rw [← HE1.out, List.length_append]; rfl
        have HR := HR7
        rw [hlm] at HR
        try rw [hlm]
        clear HR7 HQ HA HE1 o7 f7 co hown hlt2 hlm
        have hlo := HR.out.lo
        have o0 := HR.out.out.cell 0
        have o1 := HR.out.out.cell 1
        have fo1 := HR.out.out.frozen 1
        have cb := HR.out.bx.cell 0
        have HML := Lib.hid hML
        by_cases hg : L.length < M.length ∧ 4 * nb < M.length
        · have HGE := Lib.hid (show growE nb L M = 2 * nb from if_pos hg)
          have b1 : (L.length : Int) < (M.length : Int) := by omega
          have b2 : 4 * (nb : Int) < (M.length : Int) := by omega
          have HZ := Lib.hid (show Holds (wc.setCell ⟨b0 + 2, 1, none⟩ (.int .i64 (2 * (nb : Int)))) (b0 + 2) #[.slice ao7 M.length cap7, .int .i64 (2 * (nb : Int))] 27 ∧ Holds (wc.setCell ⟨b0 + 2, 1, none⟩ (.int .i64 (2 * (nb : Int)))) (b0 + 1) #[.slice none 0 0, .int .i64 0] 27 ∧ Gr [] w (wc.setCell ⟨b0 + 2, 1, none⟩ (.int .i64 (2 * (nb : Int)))) ∧ EntR (wc.setCell ⟨b0 + 2, 1, none⟩ (.int .i64 (2 * (nb : Int)))) (b0 + 2 + 1) (.slice ao7 M.length cap7) M from by
            have g3 : Gr [b0 + 2] wc (wc.setCell ⟨b0 + 2, 1, none⟩ (.int .i64 (2 * (nb : Int)))) := (Gr.refl _ _).setCell (p := ⟨b0 + 2, 1, none⟩) (.inl (List.mem_singleton.2 rfl)) _
            refine ⟨?_, HR.out.rs.gr g3 (by simp), HR.out.gr.nextN g3 fun x hx => .inr (by rw [List.mem_singleton] at hx; omega), HR.out.own.gr g3 fun b hb e => by rw [List.mem_singleton] at e; have := (HR.out.own.lt b hb).1; omega⟩
            have r := HR.out.out.set 1 (.int .i64 (2 * (nb : Int)))
            simpa using r)
          clear hg
          go_upto_region 20 with fail
          generalize (wc.setCell ⟨b0 + 2, 1, none⟩ (.int .i64 (2 * (nb : Int)))) = wz at *
          clear o0 o1 fo1 cb b1 b2
          have o0 := HZ.out.1.cell 0
          have o1 := HZ.out.1.cell 1
          have r0 := HZ.out.2.1.cell 0
          have r1 := HZ.out.2.1.cell 1
          have f0 := HZ.out.2.1.frozen 0
          have f1 := HZ.out.2.1.frozen 1
          have HF := Lib.hid (show Gr [] w ((wz.setCell ⟨b0 + 1, 0, none⟩ (.slice ao7 M.length cap7)).setCell ⟨b0 + 1, 1, none⟩ (.int .i64 (2 * (nb : Int)))) ∧ EntR ((wz.setCell ⟨b0 + 1, 0, none⟩ (.slice ao7 M.length cap7)).setCell ⟨b0 + 1, 1, none⟩ (.int .i64 (2 * (nb : Int)))) (b0 + 2 + 1) (.slice ao7 M.length cap7) M from by
            have g3 : Gr [b0 + 1] wz ((wz.setCell ⟨b0 + 1, 0, none⟩ (.slice ao7 M.length cap7)).setCell ⟨b0 + 1, 1, none⟩ (.int .i64 (2 * (nb : Int)))) := ((Gr.refl _ _).setCell (p := ⟨b0 + 1, 0, none⟩) (.inl (List.mem_singleton.2 rfl)) _).setCell (p := ⟨b0 + 1, 1, none⟩) (.inl (List.mem_singleton.2 rfl)) _
            exact ⟨HZ.out.2.2.1.nextN g3 fun x hx => .inr (by rw [List.mem_singleton] at hx; omega), HZ.out.2.2.2.gr g3 fun b hb e => by rw [List.mem_singleton] at e; have := (HZ.out.2.2.2.lt b hb).1; omega⟩)
          have hb0w : w.heap.size = b0 := HB0.out
          have HBW := Lib.hid hb0w
          clear hb0w
          go_wp2_with fail
          refine bodyPost_ret (v := .tuple #[.agg #[.slice ao7 M.length cap7, .int .i64 (2 * (nb : Int))], .int .i64 0]) (by simp [results, Tryd.results10, go_sem, *]) rfl ⟨ao7, cap7, ?_, ?_, HF.out.1⟩
          · rw [← HMM.out, HGE.out]
            rfl
          · rw [← HMM.out]
            exact ⟨HF.out.2.1, by rcases HF.out.2.2 with q | ⟨g1, c1, cu, q1, q2, q3⟩; exact .inl q; exact .inr ⟨g1, c1, cu, q1, by have := HBW.out; omega, q3⟩⟩
        · have HGE := Lib.hid (show growE nb L M = nb from if_neg hg)
          have r0 := HR.out.rs.cell 0
          have r1 := HR.out.rs.cell 1
          have f0 := HR.out.rs.frozen 0
          have f1 := HR.out.rs.frozen 1
          have HF := Lib.hid (show Gr [] w ((wc.setCell ⟨b0 + 1, 0, none⟩ (.slice ao7 M.length cap7)).setCell ⟨b0 + 1, 1, none⟩ (.int .i64 (nb : Int))) ∧ EntR ((wc.setCell ⟨b0 + 1, 0, none⟩ (.slice ao7 M.length cap7)).setCell ⟨b0 + 1, 1, none⟩ (.int .i64 (nb : Int))) (b0 + 2 + 1) (.slice ao7 M.length cap7) M from by
            have g3 : Gr [b0 + 1] wc ((wc.setCell ⟨b0 + 1, 0, none⟩ (.slice ao7 M.length cap7)).setCell ⟨b0 + 1, 1, none⟩ (.int .i64 (nb : Int))) := ((Gr.refl _ _).setCell (p := ⟨b0 + 1, 0, none⟩) (.inl (List.mem_singleton.2 rfl)) _).setCell (p := ⟨b0 + 1, 1, none⟩) (.inl (List.mem_singleton.2 rfl)) _
            exact ⟨HR.out.gr.nextN g3 fun x hx => .inr (by rw [List.mem_singleton] at hx; omega), HR.out.own.gr g3 fun b hb e => by rw [List.mem_singleton] at e; have := (HR.out.own.lt b hb).1; omega⟩)
          have HBW := Lib.hid HB0.out
          by_cases hg1 : L.length < M.length
          · have b1 : (L.length : Int) < (M.length : Int) := by omega
            have b2 : (M.length : Int) ≤ 4 * (nb : Int) := by omega
            clear hg
            go_wp2_with fail
            refine bodyPost_ret (v := .tuple #[.agg #[.slice ao7 M.length cap7, .int .i64 (nb : Int)], .int .i64 0]) (by simp [results, Tryd.results10, go_sem, *]) rfl ⟨ao7, cap7, ?_, ?_, HF.out.1⟩
            · rw [← HMM.out, HGE.out]
            · rw [← HMM.out]
              exact ⟨HF.out.2.1, by rcases HF.out.2.2 with q | ⟨g1, c1, cu, q1, q2, q3⟩; exact .inl q; exact .inr ⟨g1, c1, cu, q1, by have := HBW.out; omega, q3⟩⟩
          · have b1 : (M.length : Int) ≤ (L.length : Int) := by omega
            clear hg
            go_wp2_with fail
            refine bodyPost_ret (v := .tuple #[.agg #[.slice ao7 M.length cap7, .int .i64 (nb : Int)], .int .i64 0]) (by simp [results, Tryd.results10, go_sem, *]) rfl ⟨ao7, cap7, ?_, ?_, HF.out.1⟩
            · rw [← HMM.out, HGE.out]
            · rw [← HMM.out]
              exact ⟨HF.out.2.1, by rcases HF.out.2.2 with q | ⟨g1, c1, cu, q1, q2, q3⟩; exact .inl q; exact .inr ⟨g1, c1, cu, q1, by have := HBW.out; omega, q3⟩⟩
end
end Go.Proofs.YtefiapmgdjlnnaaDoor
