/-
  PiBn: SpBg, FlZc, FlYa, FrameP, FrameU, LnJ.
-/
import Derived.Test.YtjbhallhmnahbaaGreatPiBm
import Derived.Test.YtjbhallhmnahbaaGreatPiAr
import Derived.Test.YtjbhallhmnahbaaGreatPiAy
import Derived.Test.YtjbhallhmnahbaaGreatPiBj
import Derived.Test.YtjbhallhmnahbaaGreatPiBl
import Derived.Test.YtjbhallhmnahbaaGreatPiAb
import Derived.Test.YtjbhallhmnahbaaGreatPiAq
import Derived.Deep.Grids

set_option linter.unusedVariables false

/-
  SparePlays: the state between two acts.
-/
namespace Go.Proofs.YtjbhallhmnahbaaGreat
open Go.RowKit
set_option linter.unusedVariables false

/-- The blocks lie apart. -/
structure SPF (w : World) (a : DevA) (r : RefA) (pb : Nat) : Prop where
  ar : ∀ x ∈ a.all, x ∉ r.all
  pa : pb ∉ a.all
  pr : pb ∉ r.all
  la : ∀ x ∈ a.all, w.heap.size ≤ x
  lr : ∀ x ∈ r.all, w.heap.size ≤ x
/-- The devices. -/
structure SPD (w wr : World) (a : DevA) (r : RefA) (P : PlanZ) (pb : Nat) (D : DevS) (c : Nat) : Prop where
  dev : DevIs wr a D
  ref : RefIs wr r D
  bd : Bd D c
  pl : Holds wr pb #[.int .i64 P.a, .int .i64 P.l, .int .i64 P.s] 138
  gr : Gr [] w wr
/-- The bank. -/
structure SPQ (w wr : World) (a : DevA) (r : RefA) (P : PlanZ) (pb : Nat) (q : BkA) (B : BkS) (m : Nat) : Prop where
  bk : BkIs wr q a P B m
  qr : ∀ x ∈ q.all, x ∉ r.all
  qn : ∀ x ∈ q.all, w.heap.size ≤ x
  qp : pb ∉ q.all
section
variable {w wr w5 w6 : World} {a : DevA} {r : RefA} {P : PlanZ} {pb : Nat} {D D' : DevS} {B B' : BkS} {q : BkA} {m c : Nat}
theorem SPD.fu (h : SPD w wr a r P pb D c) : Fu D c := ⟨h.bd, h.dev.ok.fu⟩
theorem SPD.mb (h : SPD w wr a r P pb D c) : MB D := h.dev.ok.medB
theorem SPD.gr0 (h : SPD w wr a r P pb D c) (g : Gr [] wr w5) : SPD w w5 a r P pb D c := ⟨h.dev.gr0 g, h.ref.gr0 g, h.bd, h.pl.gr0 g, h.gr.trans g⟩
theorem SPQ.gr0 (h : SPQ w wr a r P pb q B m) (g : Gr [] wr w5) : SPQ w w5 a r P pb q B m := ⟨h.bk.gr0 g, h.qr, h.qn, h.qp⟩
theorem SPD.more (h : SPD w wr a r P pb D c) {c' : Nat} (hc : c ≤ c') : SPD w wr a r P pb D c' := ⟨h.dev, h.ref, h.bd.mono hc, h.pl, h.gr⟩
theorem SPQ.more (h : SPQ w wr a r P pb q B m) {m' : Nat} (hm : m ≤ m') : SPQ w wr a r P pb q B m' := ⟨h.bk.moreN _ hm, h.qr, h.qn, h.qp⟩
/-- The program's side has moved, then the document's. -/
theorem SPD.after (h : SPD w wr a r P pb D c) (F : SPF w a r pb) (hq : SPQ w wr a r P pb q B m) (d5 : DevIs w5 a D') (g5 : Gr (q.all ++ a.all) wr w5) (r6 : RefIs w6 r D') (g6 : Gr r.all w5 w6) {c' : Nat} (hb : Bd D' c') : SPD w w6 a r P pb D' c' :=
  ⟨d5.gr g6 (fun x hx => F.ar x hx), r6, hb, (h.pl.gr g5 (by simp only [List.mem_append, not_or]; exact ⟨hq.qp, F.pa⟩)).gr g6 F.pr,
   (h.gr.nextN g5 fun x hx => by
     rcases List.mem_append.1 hx with hx | hx
     · exact .inr (hq.qn x hx)
     · exact .inr (F.la x hx)).nextN g6 fun x hx => .inr (F.lr x hx)⟩
theorem SPD.mid (h : SPD w wr a r P pb D c) (F : SPF w a r pb) (hq : SPQ w wr a r P pb q B m) (g5 : Gr (q.all ++ a.all) wr w5) : RefIs w5 r D ∧ Gr [] w w5 :=
  ⟨h.ref.gr g5 (fun x hx hy => by
    rcases List.mem_append.1 hy with hy | hy
    · exact hq.qr x hy hx
    · exact F.ar x hy hx), h.gr.nextN g5 fun x hx => by
     rcases List.mem_append.1 hx with hx | hx
     · exact .inr (hq.qn x hx)
     · exact .inr (F.la x hx)⟩
theorem SPQ.after (hq : SPQ w wr a r P pb q B m) (k5 : BkIs w5 q a P B' m) (g6 : Gr r.all w5 w6) {m' : Nat} (hm : m ≤ m') : SPQ w w6 a r P pb q B' m' :=
  ⟨(k5.gr g6 hq.qr).moreN _ hm, hq.qr, hq.qn, hq.qp⟩
theorem boot_bd {L : List Nat} {kp : Nat → Bool} (h : Bd D c) : Bd (bootD D L kp) (c + 1) := Bd.mono (Bnd.boot (c := c) h L kp) (Nat.le_refl _)
end
end Go.Proofs.YtjbhallhmnahbaaGreat

/-
  Layer 9: a Make, a Write under a fuse, and what Boot and Open find behind it.
-/
namespace Go.Proofs.YtjbhallhmnahbaaGreat
open Go.RowKit
set_option linter.unusedVariables false

section
variable {C : CfgZ} {n : Nat} {F : Nat → Nat → Nat} {V : FlV} {N : Nat}
theorem LsC.boot {D : DevS} {B : Nat → BkS} {j : Nat → Nat} {G : Nat → Nat → Nat → Nat} (hC : OkC C) (hd : Live D) (h : LsC C (bare D) B j G) {L : List Nat} {kp : Nat → Bool} (hL : IsPend D L) : LsC C (bootD D L kp) B j G := by
  have hm := boot_live kp hd hL
  refine ⟨fun k hk => by rw [hm]; exact h.hd k hk, fun q hq => (h.rg q hq).keep (hC.reg hq).1 (boot_calm D L kp) rfl rfl fun x _ _ => by rw [hm]; rfl⟩
/-- A device was made a list of under a fuse, and booted. -/
theorem made_torn (hC : OkC C) (hR : cR C ≤ 3) (hn : sizeC C ≤ (n : Int)) (hn2 : n ≤ 8192) (f : Int) : ∃ (e1 : Int) (E1 : DevS), (e1 = 0 ∨ e1 = 6) ∧
    (∀ (w : World) (a : DevA), DevIs w a { newD n with fuse := f } → Calls Tryz.prog 13 #[.pointer (some ⟨a.bd, 0, none⟩), cfgV C] w fun e w' => e = .returned (.int .i64 e1) ∧ (DevIs w' a E1 ∧ Bd E1 36100) ∧ Gr a.all w w') ∧
    ∀ L kp, IsPend E1 L → Bd E1 36100 →
      (∀ (w : World) (a : DevA), DevIs w a (bootD E1 L kp) → Calls Tryz.prog 16 #[.pointer (some ⟨a.bd, 0, none⟩)] w fun e w' => ((∃ (C' : CfgZ) (A : FlA) (V : FlV), (C'.r = C.r ∧ C'.l = C.l) ∧ e = .returned (.tuple #[.pointer (some ⟨A.fb, 0, none⟩), .int .i64 0]) ∧ FL C' A a true (fun _ _ => 0) V 200000 w' ∧ (∀ x ∈ A.all (cR C'), w.heap.size ≤ x)) ∨ (e1 = 6 ∧ e = .returned (.tuple #[.pointer none, .int .i64 4]))) ∧ Gr [] w w') ∧
      (∀ (w : World) (a : DevA), DevIs w a (bootD E1 L kp) → Calls Tryz.prog 13 #[.pointer (some ⟨a.bd, 0, none⟩), cfgV C] w fun e w' => ∃ (E3 : DevS) (V3 : FlV), e = .returned (.int .i64 0) ∧ DevIs w' a E3 ∧ FlD C true (fun _ _ => 0) V3 200000 E3 (fun _ => B0) (fun _ => 0) ∧ Gr a.all w w') := by
  obtain ⟨g1, g2, g3⟩ := newD_gud n
  have gD : Gud n { newD n with fuse := f } := ⟨⟨rfl, fun _ => rfl⟩, rfl, rfl⟩
  have bD : Bd { newD n with fuse := f } 0 := g3
  have hM := make_last hC hn _ gD
  obtain ⟨X, hX⟩ : ∃ X, makeZ C { newD n with fuse := f } = X := ⟨_, rfl⟩
  obtain ⟨e1, E1⟩ := X
  have hMk : ∀ (w : World) (a : DevA), DevIs w a { newD n with fuse := f } → Calls Tryz.prog 13 #[.pointer (some ⟨a.bd, 0, none⟩), cfgV C] w fun e w' => e = .returned (.int .i64 e1) ∧ (DevIs w' a E1 ∧ Bd E1 36100) ∧ Gr a.all w w' := fun w a h => by
    refine (fmake_any h hC hn gD bD (by omega)).mono ?_
    rintro e w2 ⟨rfl, d2, b2, g2⟩
    rw [hX] at d2 b2 ⊢
    exact ⟨rfl, ⟨d2, b2.mono (by omega)⟩, g2⟩
  rw [hX] at hM
  have hMM : (e1 = 0 ∨ e1 = 6) ∧ E1.n = n ∧ E1.bad = fun _ => false := by
    rcases hM.1 with ⟨E, q, a, _⟩ | ⟨E, q, _, b, c, _⟩
    · cases q; exact ⟨.inl rfl, a.n, a.bad⟩
    · cases q; exact ⟨.inr rfl, b, c⟩
  refine ⟨e1, E1, hMM.1, hMk, fun L kp hL hb => ⟨fun w a h => ?_, fun w a h => ?_⟩⟩
  · have hbd : Bd (bootD E1 L kp) 200000 := (boot_bd hb).mono (by omega)
    have hfit : (bootD E1 L kp).n = n := hMM.2.1
    rcases hM.1 with ⟨E, q, a1, a2⟩ | ⟨E, q, b1, b2, b3, b4⟩
    · cases q
      refine (fl_open hC (F := fun _ _ => 0) (V := vOf C (fun _ => B0) (fun _ => 0) (iL C)) (g := true) (N := 200000) ⟨boot_calm E1 L kp, fun _ => a1.bad, by rw [hfit]; exact hn, ⟨_, a2.boot hC a1.live hL, fun _ _ _ _ => rfl⟩, rfl, fun _ _ => by omega, hbd⟩ (by omega) h).mono ?_
      rintro e w2 ⟨A, rfl, f2, n2, g2⟩
      exact ⟨.inl ⟨C, A, _, ⟨rfl, rfl⟩, rfl, f2, n2⟩, g2⟩
    · cases q
      have hc := boot_calm E1 L kp
      have hS64 := line_size (bootD E1 L kp) 0
      obtain ⟨S, hS⟩ : ∃ S : ByteArray, S = ⟨(getT (bootD E1 L kp) 0).toArray⟩ := ⟨_, rfl⟩
      have hw : ∀ k, k < 8 → wdL S.data.toList k = (bootD E1 L kp).med k := fun k hk => by rw [hS, line_words hc h.ok.medB k hk, Nat.mul_zero, Nat.zero_add]
      rw [← hS] at hS64
      rcases torn_open (n := (n : Int)) hC (by omega) (fun _ _ => rfl) (b4 L kp hL) hS64 hw with t | ⟨C', ⟨c1, c2, c3, c4⟩, c5, c6, c7⟩
      · refine (fopen_form h hc.off hS (by rw [hfit]; exact t)).mono ?_
        rintro e w2 ⟨rfl, g2⟩
        exact ⟨.inr ⟨rfl, rfl⟩, g2⟩
      · refine (fl_open c5 (F := fun _ _ => 0) (V := vOf C' (fun _ => B0) (fun _ => 0) (iL C')) (g := true) (N := 200000) ⟨hc, fun _ => b3, by rw [hfit]; exact c6, ⟨_, c7, fun _ _ _ _ => rfl⟩, rfl, fun _ _ => by omega, hbd⟩ (by omega) h).mono ?_
        rintro e w2 ⟨A, rfl, f2, n2, g2⟩
        exact ⟨.inl ⟨C', A, _, ⟨c1, c2⟩, rfl, f2, n2⟩, g2⟩
  · have hc := boot_calm E1 L kp
    have g' : Gud n (bootD E1 L kp) := ⟨⟨hc.off, hc.buf⟩, hMM.2.2, hMM.2.1⟩
    obtain ⟨m1, m2, m3, m4⟩ := fl_made (N := 200000) hC hn hc g'
    refine (fmake_any h hC hn g' (boot_bd hb) (by omega)).mono ?_
    rintro e w2 ⟨rfl, d2, b2, g2⟩
    exact ⟨_, _, by rw [m1], d2, m4 (b2.mono (by omega)), g2⟩
/-- A list whose device has a fuse. -/
structure FLf (C : CfgZ) (A : FlA) (a : DevA) (F : Nat → Nat → Nat) (V : FlV) (N : Nat) (f : Int) (w : World) : Prop where
  ok : OkC C
  st : ∃ (D : DevS) (B : Nat → BkS) (j c : Nat → Nat), FlD C true F V N D B j ∧ FlIs w A a C B (64 + N / 20) j c ∧ DevIs w a { D with fuse := f }
variable {w w' : World} {A : FlA} {a : DevA}
theorem FLf.gr0 {f : Int} (h : FLf C A a F V N f w) (k : Gr [] w w') : FLf C A a F V N f w' := by
  obtain ⟨ok, D, B, j, c, h1, h2, h3⟩ := h
  exact ⟨ok, D, B, j, c, h1, h2.gr k (by simp), h3.gr0 k⟩
theorem FL.fuse (h : FL C A a true F V N w) (z : Int) (hz : z ≤ 9223372036854775807) :
    Calls Tryz.prog 26 #[.pointer (some ⟨a.bd, 0, none⟩), .int .i64 z] w fun e w' => e = .returned (.tuple #[]) ∧ FLf C A a F V N (mx z) w' ∧ Gr a.all w w' := by
  obtain ⟨ok, D, B, j, c, h1, h2, h3⟩ := h
  refine (fuse_any a D z hz w h3).mono ?_
  rintro e w2 ⟨rfl, d2, g2⟩
  refine ⟨rfl, ⟨ok, D, B, j, c, h1, h2.gr g2 (fun x hx e => ?_), d2⟩, g2.mono (fun b hb => by simp at hb; subst hb; simp [DevA.all])⟩
  have hm : x ∈ a.all := by rw [List.mem_singleton.1 e]; simp [DevA.all]
  unfold FlA.all at hx
  rcases List.mem_append.1 hx with hx | hx
  · obtain ⟨n1, n2, n3⟩ := h2.na
    simp at hx
    rcases hx with e | e | e
    · exact n1 (e ▸ hm)
    · exact n2 (e ▸ hm)
    · exact n3 (e ▸ hm)
  · obtain ⟨q, hq, hx⟩ := List.mem_flatMap.1 hx
    have R := h2.rg q (List.mem_range.1 hq)
    unfold FlA.reg at hx
    rcases List.mem_cons.1 hx with e | e
    · exact R.ka (e ▸ hm)
    · exact R.bk.sep _ e hm
theorem FLf.put {f : Int} (h : FLf C A a F V N f w) (hN : N < 490000) (l : Nat) (hl : l < cR C * cL C) (s : ByteArray) (hs : s.size = 64) :
    Calls Tryz.prog 18 #[.pointer (some ⟨A.fb, 0, none⟩), .int .i64 (l : Int), .string s] w fun e w' => ∃ (x : Int) (E : DevS), e = .returned (.int .i64 x) ∧ (x = 0 ∨ x = 6) ∧ (DevIs w' a E ∧ Bd E (N + 4200)) ∧ (∀ L kp, IsPend E L → ∃ (H : Nat → Nat) (V' : FlV) (B' : Nat → BkS) (j' : Nat → Nat), FlD C true (fun l2 k => if l2 = l then H k else F l2 k) V' (N + 4201) (bootD E L kp) B' j' ∧ GotL (F l) s x H) ∧ Gr (A.all (cR C) ++ a.all) w w' := by
  obtain ⟨ok, D, B, j, c, h1, h2, h3⟩ := h
  obtain ⟨Gf, L0, hF⟩ := h1.ls
  obtain ⟨hq, hi⟩ := qi_in ok hl
  obtain ⟨r1, r2, r3, r4, r5, r6, r7, r8⟩ := ok.reg hq
  have hj := h1.mv _ hq
  have hbr : bare { D with fuse := f } = D := by
    rw [← calm_bare h1.calm]
    rfl
  have hrg : RgC (regC C (qL C l)) (bare { D with fuse := f }) (B (qL C l)) (j (qL C l)) (Gf (qL C l)) := by rw [hbr]; exact L0.rg _ hq
  have hlv : Live { D with fuse := f } := ⟨h1.calm.off, h1.calm.buf⟩
  have hmed := h3.ok.medB
  obtain ⟨X, hX, hx, hT⟩ := fl_torn ok h1 hmed (by omega) hl hs f (c (qL C l))
  have hbd : Bd { D with fuse := f } N := h1.bd
  refine (fwrite_in l s h2 hl h3 hbd (by omega) (by omega) hs (by omega) h1.fit (fun hc => ?_)).mono ?_
  · obtain ⟨m1, m2, m3, _⟩ := move_last r1 hlv hmed hrg (by omega)
    exact ⟨m1, m2, m3⟩
  · rintro e w2 ⟨rfl, d2, b2, f2, g2⟩
    rw [hX] at d2 b2 ⊢
    exact ⟨_, _, rfl, hx, ⟨d2, b2⟩, fun L kp hL => hT L kp hL _ (by omega) (boot_bd b2), g2⟩
end
end Go.Proofs.YtjbhallhmnahbaaGreat

/-
  FlatKeeps: a set of ints (a map to bool), a slice of texts, a line that breaks.
-/
namespace Go.Proofs.YtjbhallhmnahbaaGreat
open Go.RowKit
set_option linter.unusedVariables false

section
variable {w w' : World} {A : FlA} {a : DevA} {C : CfgZ} {F : Nat → Nat → Nat} {V : FlV} {N : Nat}
end
theorem smallC_pos (r l s p : Int) (key : Nat) (hk : key < 18446744073709551616) : 1 ≤ sizeC (smallC r l s p key) := by
  have h0 := mx_nonneg r
  have h1 := mx_nonneg l
  have h2 := mx_nonneg s
  have h3 := mx_nonneg p
  have e1 : (smallC r l s p key).r = 1 + mx r % 3 := rfl
  have e2 : (smallC r l s p key).l = 1 + mx l % 5 := rfl
  have e3 : (smallC r l s p key).s = mx s % 5 := rfl
  have e4 : (smallC r l s p key).psi = 1 + mx p % 4 := rfl
  have ok : okP (smallC r l s p key) := by unfold okP; omega
  obtain ⟨_, hs⟩ := regS_ok ok
  have hrs : 0 ≤ regS (smallC r l s p key) := by rw [hs]; omega
  have hm0 : 0 ≤ (smallC r l s p key).r * regS (smallC r l s p key) := Int.mul_nonneg (by omega) hrs
  rw [(smallC_ok r l s p key hk).1.size]
  omega
/-- What lines of these texts have. -/
def wF (K : Nat → ByteArray) : Nat → Nat → Nat := fun l k => wdL (K l).data.toList k
/-- The law's list, behind n acts: its texts beside it. -/
structure Kq (w : World) (C : CfgZ) (a : DevA) (nb : Nat) (K : Nat → ByteArray) (A : FlA) (V : FlV) (N : Nat) (wr : World) : Prop where
  gr : Gr [] w wr
  fl : FL C A a false (wF K) V N wr
  kn : Holds wr nb (rowOf (fun l => .string (K l)) (cR C * cL C)) 9
  sz : ∀ l, l < cR C * cL C → (K l).size = 64
  lo : w.heap.size ≤ nb ∧ ∀ x ∈ A.all (cR C) ++ a.all, w.heap.size ≤ x ∧ x ≠ nb
section
variable {w wr w2 : World} {C : CfgZ} {a : DevA} {nb : Nat} {K : Nat → ByteArray} {A : FlA} {V V2 : FlV} {N N2 : Nat}
theorem Kq.next (h : Kq w C a nb K A V N wr) (g : Gr (A.all (cR C) ++ a.all) wr w2) (r : FL C A a false (wF K) V2 N2 w2) : Kq w C a nb K A V2 N2 w2 :=
  ⟨h.gr.nextN g fun x hx => .inr (h.lo.2 x hx).1, r, h.kn.gr g fun hx => (h.lo.2 _ hx).2 rfl, h.sz, h.lo⟩
theorem Kq.next0 (h : Kq w C a nb K A V N wr) (g : Gr [] wr w2) : Kq w C a nb K A V N w2 := h.next g.of0 (h.fl.gr0 g)
theorem Kq.cell (h : Kq w C a nb K A V N wr) {l : Nat} (hl : l < cR C * cL C) : wr.cell? ⟨nb, l, none⟩ = some (.string (K l)) := by
  have := h.kn.cell l
  rw [rowOf_get _ _ _ hl] at this
  exact this
end
end Go.Proofs.YtjbhallhmnahbaaGreat

/-
  A config (four integers, a word) that comes in as an argument of a law, opened.
-/
namespace Go.Proofs.YtjbhallhmnahbaaGreat
open Go.ChangeShapes Go.WideShapes Go.ChangeAt Go.RowKit
set_option linter.unusedVariables false

def CfgB (x0 x1 x2 x3 : Int) (x4 : Nat) : Prop := I64 x0 ∧ I64 x1 ∧ I64 x2 ∧ I64 x3 ∧ x4 < 18446744073709551616
theorem okWide_strP {P : Program} {w : World} {r : Reach} {base : Nat} {t : TypeId} {v : Value} {fs : Array Field} (ht : P.underlying t = some (.struct fs)) (h : Value.okWide P w r base t v) : ∃ cs, v = .agg cs ∧ cs.size = P.cellsOf t := by
  simp only [Value.okWide, ht] at h
  obtain ⟨cs, h1, h2, _⟩ := h
  exact ⟨cs, h1, h2⟩
theorem open_cfg {H : Type} {enc : TypeId × Value → H} {P : Program} {w : World} {base : Nat} {held : Bool} {T : TypeId} {fs : Array Field} {f0 f1 f2 f3 f4 : Field} {v : Value} {b0 : Nat} {d : DataW H} {p : List MemPlace}
    (he : P.underlying T = some (.struct fs)) (h0 : fs[0]? = some f0) (h1 : fs[1]? = some f1) (h2 : fs[2]? = some f2) (h3 : fs[3]? = some f3) (h4 : fs[4]? = some f4)
    (o0 : f0.offset = 0) (o1 : f1.offset = 1) (o2 : f2.offset = 2) (o3 : f3.offset = 3) (o4 : f4.offset = 4)
    (t0 : P.underlying f0.type = some (.int .i64)) (t1 : P.underlying f1.type = some (.int .i64)) (t2 : P.underlying f2.type = some (.int .i64)) (t3 : P.underlying f3.type = some (.int .i64)) (t4 : P.underlying f4.type = some (.int .u64))
    (c0 : P.cellsOf f0.type = 1) (c1 : P.cellsOf f1.type = 1) (c2 : P.cellsOf f2.type = 1) (c3 : P.cellsOf f3.type = 1) (c4 : P.cellsOf f4.type = 1) (cT : P.cellsOf T = 5)
    (hv : Value.okWide P w .any b0 T v) (h : DataW.Trod enc P w base (fun _ => true) held T v d p) : ∃ (x0 x1 x2 x3 : Int) (x4 : Nat), v = .agg #[.int .i64 x0, .int .i64 x1, .int .i64 x2, .int .i64 x3, .int .u64 (x4 : Int)] ∧ CfgB x0 x1 x2 x3 x4 := by
  obtain ⟨cs, rfl, hsz⟩ := okWide_strP he hv
  obtain ⟨fuel, hf⟩ := h
  have hf' : DataW.trod enc P w base (fun _ => true) held fuel T cs.toList = some (d, p) := hf
  obtain ⟨ys, n, _, _, hl, hy, hi⟩ := DataW.trod_struct he hf'
  have hsf : 4 < fs.size := (Array.getElem?_eq_some_iff.1 h4).1
  have key : ∀ (i : Nat) (v : Value), (cs.toList.drop i).take 1 = [v] → cs.toList[i]? = some v := fun i v hd => by
    have : (List.take 1 (List.drop i cs.toList))[0]? = some v := by rw [hd]; rfl
    rw [List.getElem?_take_of_lt (by omega), List.getElem?_drop, Nat.add_zero] at this
    exact this
  have r0 := hi 0 f0 h0
  have r1 := hi 1 f1 h1
  have r2 := hi 2 f2 h2
  have r3 := hi 3 f3 h3
  have r4 := hi 4 f4 h4
  rw [o0, c0, List.getElem?_eq_getElem (by omega)] at r0
  rw [o1, c1, List.getElem?_eq_getElem (by omega)] at r1
  rw [o2, c2, List.getElem?_eq_getElem (by omega)] at r2
  rw [o3, c3, List.getElem?_eq_getElem (by omega)] at r3
  rw [o4, c4, List.getElem?_eq_getElem (by omega)] at r4
  obtain ⟨x0, e0, _, w0⟩ := DataW.trod_int t0 r0
  obtain ⟨x1, e1, _, w1⟩ := DataW.trod_int t1 r1
  obtain ⟨x2, e2, _, w2⟩ := DataW.trod_int t2 r2
  obtain ⟨x3, e3, _, w3⟩ := DataW.trod_int t3 r3
  obtain ⟨x4, e4, _, w4⟩ := DataW.trod_int t4 r4
  obtain ⟨u, rfl, hu⟩ := natU64 w4
  refine ⟨x0, x1, x2, x3, u, ?_, bounds_i64 w0, bounds_i64 w1, bounds_i64 w2, bounds_i64 w3, hu⟩
  have k0 := key 0 _ e0
  have k1 := key 1 _ e1
  have k2 := key 2 _ e2
  have k3 := key 3 _ e3
  have k4 := key 4 _ e4
  have hlen : cs.toList.length = 5 := by simpa [cT] using hsz
  have : cs.toList = [.int .i64 x0, .int .i64 x1, .int .i64 x2, .int .i64 x3, .int .u64 (u : Int)] := by
    apply List.ext_getElem?
    intro i
    match i with
    | 0 => rw [k0]; rfl
    | 1 => rw [k1]; rfl
    | 2 => rw [k2]; rfl
    | 3 => rw [k3]; rfl
    | 4 => rw [k4]; rfl
    | n + 5 => rw [List.getElem?_eq_none (by omega), List.getElem?_eq_none (by simp)]
  congr 1
  exact Array.ext' this
end Go.Proofs.YtjbhallhmnahbaaGreat

/-
  An array of strings by value, opened.
-/
namespace Go.Proofs.YtjbhallhmnahbaaGreat
open Go.RowKit

/-- An array of strings by value. -/
theorem open_sarr {H : Type} {enc : TypeId × Value → H} {P : Program} {w : World} {b0 base : Nat} {spare : Nat → Bool} {held : Bool} {t e : TypeId} {n : Nat} {v : Value} {d : DataW H} {p : List MemPlace}
    (ht : P.underlying t = some (.array n e)) (he : P.underlying e = some .string) (hc : P.cellsOf e = 1) (hn : P.cellsOf t = n)
    (hv : Value.okWide P w .any b0 t v) (h : DataW.Trod enc P w base spare held t v d p) :
    ∃ xs : List ByteArray, v = .agg (xs.map Value.string).toArray ∧ xs.length = n ∧ ∀ s ∈ xs, s.size ≤ maxLen := by
  obtain ⟨cs, rfl, hs⟩ := okWide_arr ht hv
  obtain ⟨fuel, hf⟩ := h
  obtain ⟨ys, m, _, _, hl, hy, hi⟩ := DataW.trod_array ht hf
  have hlen : cs.toList.length = n := by simpa [hn] using hs
  have key : ∀ i (h : i < cs.toList.length), ∃ x : ByteArray, cs.toList[i] = .string x ∧ x.size ≤ maxLen := by
    intro i hlt
    have h1 := hi i (by omega)
    rw [hc, Nat.mul_one, List.getElem?_eq_getElem (by omega)] at h1
    obtain ⟨x, hx, _, hxs⟩ := DataW.trod_string he h1
    refine ⟨x, ?_, hxs⟩
    have h2 : (List.take 1 (List.drop i cs.toList))[0]? = some (Value.string x) := by
      have : List.take 1 (List.drop i cs.toList) = [Value.string x] := hx
      rw [this]; rfl
    rw [List.getElem?_take_of_lt (by omega), List.getElem?_drop, Nat.add_zero, List.getElem?_eq_getElem hlt] at h2
    exact Option.some.inj h2
  refine ⟨cs.toList.map fun c => match c with | .string x => x | _ => ⟨#[]⟩, ?_, by simpa using hlen, ?_⟩
  · have e1 : (cs.toList.map fun c => match c with | .string x => x | _ => ⟨#[]⟩).map Value.string = cs.toList := by
      apply List.ext_getElem (by simp)
      intro i h1 h2
      obtain ⟨x, hx, _⟩ := key i h2
      simp only [List.getElem_map, hx]
    rw [e1]
  · intro s hs
    obtain ⟨i, hi2, rfl⟩ := List.getElem_of_mem hs
    have h2 : i < cs.toList.length := by simpa using hi2
    obtain ⟨x, hx, hxs⟩ := key i h2
    simp only [List.getElem_map, hx]
    exact hxs

theorem weights_all_mem {H : Type} {P : Program} {e : TypeId} : ∀ {ds : List (DataW H)} {d : DataW H}, d ∈ ds → ∀ n ∈ d.weights P e, n ∈ DataW.weightsAll P e ds
  | d0 :: ds, d, hd, n, hn => by
    simp only [DataW.weightsAll, List.mem_append]
    rcases List.mem_cons.1 hd with rfl | hd
    · exact .inl hn
    · exact .inr (weights_all_mem hd n hn)
/-- An array of strings by value, of a size that a machine can hold. -/
theorem open_sarrR {H : Type} {enc : TypeId × Value → H} {P : Program} {w : World} {b0 base : Nat} {spare : Nat → Bool} {held : Bool} {t e : TypeId} {n : Nat} {v : Value} {d : DataW H} {p : List MemPlace} {ts : List TypeId} {ds : List (DataW H)} {j : Nat}
    (ht : P.underlying t = some (.array n e)) (he : P.underlying e = some .string) (hc : P.cellsOf e = 1) (hn : P.cellsOf t = n)
    (hv : Value.okWide P w .any b0 t v) (h : DataW.Trod enc P w base spare held t v d p)
    (hsz : (DataW.weightsEach P ts ds).all (· ≤ reachBytes) = true) (hjt : ts[j]? = some t) (hjd : ds[j]? = some d) :
    ∃ xs : List ByteArray, v = .agg (xs.map Value.string).toArray ∧ xs.length = n ∧ ∀ s ∈ xs, s.size ≤ maxLen ∧ s.size ≤ reachBytes := by
  obtain ⟨xs, h1, h2, h3⟩ := open_sarr ht he hc hn hv h
  refine ⟨xs, h1, h2, fun s hs => ⟨h3 s hs, ?_⟩⟩
  obtain ⟨fuel, hf⟩ := h
  rw [h1] at hf
  obtain ⟨ys, m, _, hy0, hl, hy, hi⟩ := DataW.trod_array ht hf
  obtain ⟨i, hi2, rfl⟩ := List.getElem_of_mem hs
  have k1 := hi i (by omega)
  rw [hc, Nat.mul_one, List.getElem?_eq_getElem (by omega)] at k1
  obtain ⟨x, hx, hx2, _⟩ := DataW.trod_string he k1
  have h4 : x = xs[i] := by
    have : (List.take 1 (List.drop i (Value.agg (xs.map Value.string).toArray).cells.toList))[0]? = some (Value.string x) := by rw [hx]; rfl
    simp [Value.cells] at this
    have h5 := List.getElem?_eq_getElem (l := xs) (i := i) hi2
    rw [h5] at this
    simpa using this.symm
  rw [← h4]
  have hd : d = .agg (ys.map (·.1)) := (Prod.mk.inj hy0).1
  have hm : DataW.lit (.string x.data.toList) ∈ ys.map (·.1) := by
    rw [List.mem_map]
    exact ⟨ys[i]'(by omega), List.getElem_mem _, by rw [hx2]⟩
  have := List.all_eq_true.1 hsz _ (DataW.weights_mem_each hjt hjd x.data.toList.length (by
    rw [hd]
    simp only [DataW.weights, ht]
    exact weights_all_mem hm _ (by simp [DataW.weights])))
  simpa using this

end Go.Proofs.YtjbhallhmnahbaaGreat

/-
  LineTorn, the walk.
-/
namespace Go.Proofs.YtjbhallhmnahbaaGreat
open Go.RowKit
set_option linter.unusedVariables false

theorem mixB_of {A B G : ByteArray} (hA : A.size = 64) (hB : B.size = 64) (hG : G.size = 64) (h : ∀ j, j < 8 → wdL G.data.toList j = wdL A.data.toList j ∨ wdL G.data.toList j = wdL B.data.toList j) : mixB A B G = true := by
  unfold mixB
  rw [decide_eq_true ⟨hA, hB, hG⟩, Bool.true_and, List.all_eq_true]
  intro j hj
  rw [List.mem_range] at hj
  rcases h j hj with q | q <;> simp [q]
end Go.Proofs.YtjbhallhmnahbaaGreat
