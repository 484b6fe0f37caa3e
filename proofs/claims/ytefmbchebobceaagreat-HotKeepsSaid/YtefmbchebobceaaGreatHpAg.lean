/-
  HpAg: HvA, LnJ, HvB, HtQ, SpL, FmA, FmB.
-/
import Derived.Test.YtefmbchebobceaaGreatHkAa
import Derived.Test.YtefmbchebobceaaGreatHkAb
import Derived.Test.YtefmbchebobceaaGreatHkAc
import Derived.Test.YtefmbchebobceaaGreatHkAd
import Derived.Test.YtefmbchebobceaaGreatHkAe
import Derived.Test.YtefmbchebobceaaGreatHkAf
import Derived.Test.YtefmbchebobceaaGreatHkAg
import Derived.Test.YtefmbchebobceaaGreatHkAh
import Derived.Test.YtefmbchebobceaaGreatHkAi
import Derived.Test.YtefmbchebobceaaGreatHkAj
import Derived.Test.YtefmbchebobceaaGreatHkAk
import Derived.Test.YtefmbchebobceaaGreatHkAl
import Derived.Test.YtefmbchebobceaaGreatHkAm
import Derived.Test.YtefmbchebobceaaGreatHkAn
import Derived.Test.YtefmbchebobceaaGreatHkAo
import Derived.Test.YtefmbchebobceaaGreatHkAp
import Derived.Test.YtefmbchebobceaaGreatHkAq
import Derived.Test.YtefmbchebobceaaGreatHkAr
import Derived.Test.YtefmbchebobceaaGreatHkAs
import Derived.Test.YtefmbchebobceaaGreatHkAt
import Derived.Test.YtefmbchebobceaaGreatHkAu
import Derived.Test.YtefmbchebobceaaGreatHkAv
import Derived.Test.YtefmbchebobceaaGreatHkAw
import Derived.Test.YtefmbchebobceaaGreatHkAx
import Derived.Test.YtefmbchebobceaaGreatHkAy
import Derived.Test.YtefmbchebobceaaGreatHkAz
import Derived.Test.YtefmbchebobceaaGreatHkBa
import Derived.Test.YtefmbchebobceaaGreatHkBb
import Derived.Test.YtefmbchebobceaaGreatHkBc
import Derived.Test.YtefmbchebobceaaGreatHkBd
import Derived.Test.YtefmbchebobceaaGreatHkBe
import Derived.Test.YtefmbchebobceaaGreatHkBf
import Derived.Test.YtefmbchebobceaaGreatHkBg
import Derived.Test.YtefmbchebobceaaGreatHkBh
import Derived.Test.YtefmbchebobceaaGreatHkBi
import Derived.Test.YtefmbchebobceaaGreatHkBj
import Derived.Test.YtefmbchebobceaaGreatHkBk
import Derived.Test.YtefmbchebobceaaGreatHpAf
import Derived.Test.YtefmbchebobceaaGreatHpAb
import Derived.Test.YtefmbchebobceaaGreatHpAa
import Derived.Test.YtefmbchebobceaaGreatRows
import Derived.WalkKit
import Derived.Handy
import Derived.Lib.Hide
import Derived.Lib.AppendStr
import Derived.Deep.QuietTactic
import Derived.BigQuiet
import Derived.KernelRfl
import Derived.Deep.RegionHeld3
import Derived.StillTailTactics
import Derived.IntWalk
import Derived.Maps.RangeWalk
import Derived.Maps.OwnSet
import Derived.Shelf.Strings.Repeat
import Derived.Ground.NamesProg
import Derived.Lib.Agree
import Derived.Deep.MidRow
import Derived.Deep.CutBlock
import Derived.ChangeSlices
import Derived.Deep.Slices
import Derived.Deep.Grids
import Derived.Deep.LoopGhost
import Derived.Deep.RegionLaw
import Derived.Deep.AppendLies

set_option linter.unusedVariables false

/-
  HotTorn, HotKeeps: texts of pages, maps of texts by pairs, a fuse, what a Boot leaves, Open behind it.
-/
namespace Go.Proofs.YtefmbchebobceaaGreat
open Go.RowKit
set_option linter.unusedVariables false

theorem textEnc_inj (a b : ByteArray) (h : textEnc a = textEnc b) : a = b := by
  unfold textEnc at h
  injection h with h
  injection h with h
  exact ByteArray.ext (Array.ext' h)
def textRd : Value → Option (DataW Unit × List MemPlace)
  | .string s => some (textEnc s, [])
  | _ => none
theorem textRd_inv (v : Value) (y : DataW Unit × List MemPlace) (h : textRd v = some y) : ∃ a : ByteArray, v = .string a ∧ y = (textEnc a, []) := by
  unfold textRd at h
  split at h
  · rename_i n
    cases h
    exact ⟨n, rfl, rfl⟩
  · cases h
noncomputable def textE : EltLaw Tryz.prog 9 ByteArray where
  val := fun c => .string c
  enc := textEnc
  R := textRd
  R_mk := fun _ => rfl
  R_inv := textRd_inv
  enc_inj := textEnc_inj
  zero := ⟨#[]⟩
  zero_run := fun _ => by kernel_rfl
theorem types_pos10 : ∃ m, Tryz.prog.types.size = m + 1 := ⟨Tryz.prog.types.size - 1, by
  have : 0 < Tryz.prog.types.size := of_decide_eq_true (by kernel_rfl)
  omega⟩
theorem pair10 : PairKey Tryz.prog 55 := .mk' (e := 3) ⟨Tryz.underlying55, by kernel_rfl, by kernel_rfl, by kernel_rfl⟩ Tryz.underlying3 types_pos10
/-- The text of a page's line. -/
noncomputable def tY (Y : Nat → Nat → Nat → Nat) (g k : Nat) : ByteArray := lnF (fun _ => Y g k) 0
theorem tY_is {Y : Nat → Nat → Nat → Nat} {g k : Nat} {T : ByteArray} (h1 : T.size = 64) (h2 : ∀ m, m < 8 → wdL T.data.toList m = Y g k m) : tY Y g k = T := by
  have hx : ∃ t : ByteArray, t.size = 64 ∧ ∀ m, m < 8 → wdL t.data.toList m = Y g k m := ⟨T, h1, h2⟩
  unfold tY lnF
  rw [dif_pos hx]
  obtain ⟨s1, s2⟩ := Classical.choose_spec hx
  exact bytes_eq s1 h1 fun m hm => (s2 m hm).trans (h2 m hm).symm
theorem tY_far {Y Z : Nat → Nat → Nat → Nat} {g k : Nat} (hx : (tY Y g k).size = 64 ∧ ∀ m, m < 8 → wdL (tY Y g k).data.toList m = Y g k m) (h : ∀ m, m < 8 → Z g k m = Y g k m) : tY Z g k = tY Y g k := tY_is hx.1 fun m hm => (hx.2 m hm).trans (h m hm).symm
/-- The first n lines' texts, by pairs. -/
noncomputable def wasF (Y : Nat → Nat → Nat → Nat) (n : Nat) : Int → Int → Option ByteArray := fun x y => if 0 ≤ x ∧ 0 ≤ y ∧ y < 8 ∧ 8 * x + y < (n : Int) then some (tY Y x.toNat y.toNat) else none
theorem wasF_zero (Y : Nat → Nat → Nat → Nat) : wasF Y 0 = fun _ _ => none := by
  funext x y
  unfold wasF
  rw [if_neg (by omega)]
theorem wasF_succ (Y : Nat → Nat → Nat → Nat) {i k : Nat} (hk : k < 8) : updP (wasF Y (8 * i + k)) (i : Int) (k : Int) (some (tY Y i k)) = wasF Y (8 * i + (k + 1)) := by
  funext x y
  unfold updP wasF
  by_cases e : x = (i : Int) ∧ y = (k : Int)
  · obtain ⟨rfl, rfl⟩ := e
    rw [if_pos ⟨rfl, rfl⟩, if_pos (by omega), Int.toNat_natCast, Int.toNat_natCast]
  · rw [if_neg e]
    by_cases h : 0 ≤ x ∧ 0 ≤ y ∧ y < 8 ∧ 8 * x + y < ((8 * i + k : Nat) : Int)
    · rw [if_pos h, if_pos (by omega)]
    · rw [if_neg h, if_neg (by omega)]
theorem wasF_get {Y : Nat → Nat → Nat → Nat} {G i k : Nat} (hi : i < G) (hk : k < 8) : wasF Y (8 * G) (i : Int) (k : Int) = some (tY Y i k) := by
  unfold wasF
  rw [if_pos (by omega), Int.toNat_natCast, Int.toNat_natCast]
section
variable {w w' : World} {X : HtA} {A : FlA} {a : DevA} {C : CfgZ} {gd cm : Bool} {F F' : Nat → Nat → Nat} {V V' : FlV} {c : Nat → Nat} {N N' lim : Nat} {S : HtS} {Y : Nat → Nat → Nat → Nat}
theorem HL.len (h : HL C X A a lim Y N w) : Calls Tryz.prog 19 #[.pointer (some ⟨X.pb, 0, none⟩)] w fun e w' => e = .returned (.int .i64 (pgC C : Int)) ∧ w' = w := by
  obtain ⟨l1, l2, F, V, c, S, h1, h2⟩ := h
  exact hlen_any h1
theorem HL.text (h : HL C X A a lim Y N w) (g k : Nat) (hg : g < pgC C) (hk : k < 8) : (tY Y g k).size = 64 ∧ (∀ m, m < 8 → wdL (tY Y g k).data.toList m = Y g k m) ∧ Calls Tryz.prog 24 #[.pointer (some ⟨X.pb, 0, none⟩), .int .i64 (g : Int), .int .i64 (k : Int)] w fun e w' => e = .returned (.tuple #[.string (tY Y g k), .int .i64 0]) ∧ Gr [] w w' := by
  obtain ⟨T, h1, h2, h3⟩ := h.read g k hg hk
  rw [tY_is h1 h2]
  exact ⟨h1, h2, h3⟩
theorem HtIs.any (h : HtIs w X A a C F V c N lim S) : HgIs w X A a C true true F V N lim S := ⟨.of h.fl.fl, h.pos, h.head, h.pls, h.hts, h.tks, h.na, h.nd, h.cap, h.inv, h.tab, h.mvb, h.htb⟩
theorem HL.any (h : HL C X A a lim Y N w) : HLg C X A a true true lim Y N w := by
  obtain ⟨l1, l2, F, V, c, S, h1, h2⟩ := h
  exact ⟨l1, l2, F, V, S, h1.any, h2⟩
/-- A fuse is set: from now on the power may fail. -/
theorem HLg.fuse (h : HLg C X A a gd true lim Y N w) (z : Int) (hz : z ≤ 9223372036854775807) :
    Calls Tryz.prog 28 #[.pointer (some ⟨a.bd, 0, none⟩), .int .i64 z] w fun e w' => e = .returned (.tuple #[]) ∧ HLg C X A a gd false lim Y N w' ∧ Gr a.all w w' := by
  obtain ⟨l1, l2, F, V, S, h1, h2⟩ := h
  refine (FLx.fuse h1.fl.fl z hz).mono ?_
  rintro e w2 ⟨rfl, f2, g2⟩
  have hn : ∀ x ∈ X.all, x ∉ a.all := fun x hx e => h1.na x hx (List.mem_append.2 (.inr e))
  obtain ⟨c1, q1, q2⟩ := h1.pls
  obtain ⟨c2, q3, q4⟩ := h1.hts
  obtain ⟨c3, q5, q6⟩ := h1.tks
  exact ⟨rfl, ⟨l1, l2, F, V, S, ⟨f2, h1.pos, h1.head.gr g2 (hn _ (by simp [HtA.all])), ⟨c1, q1.gr g2 (hn _ (by simp [HtA.all])), q2⟩, ⟨c2, q3.gr g2 (hn _ (by simp [HtA.all])), q4⟩, ⟨c3, q5.gr g2 (hn _ (by simp [HtA.all])), q6⟩, h1.na, h1.nd, h1.cap, h1.inv, h1.tab, h1.mvb, h1.htb⟩, h2⟩, g2⟩
/-- What a Boot leaves of pages, the power lasting till then. -/
theorem HLg.off (h : HLg C X A a gd cm lim Y N w) (hN : N < 4294967296) : FLo C a gd (PgY C Y N) N w := by
  obtain ⟨l1, l2, F, V, S, h1, h2⟩ := h
  obtain ⟨ok, D, B, j, c, f1, lv, hc, f2, d3⟩ := h1.fl
  refine ⟨D, d3, f1.bd, fun L kp hL => ⟨F, V, B, j, ⟨boot_calm D L kp, f1.gd, f1.fit, ?_, f1.vs, fun q hq => Nat.le_trans (f1.mv q hq) (by omega), boot_bdX f1.bd⟩, S.fr, S.mv, h1.tbo hN, h1.mvb, h2⟩⟩
  obtain ⟨G, L0, hG⟩ := f1.ls
  exact ⟨G, L0.bootX ok lv hL, hG⟩
/-- What a power failure within a write of page 0's line 3 leaves. -/
def TornY (C : CfgZ) (Y : Nat → Nat → Nat → Nat) (T : ByteArray) (x : Int) (N : Nat) (F' : Nat → Nat → Nat) : Prop :=
  ∃ Z : Nat → Nat → Nat → Nat, (∀ g2 k2 m, g2 < pgC C → k2 < 8 → m < 8 → ¬ (g2 = 0 ∧ k2 = 3) → Z g2 k2 m = Y g2 k2 m) ∧ Mix2 (Y 0 3) (wdL T.data.toList) (Z 0 3) ∧ (x = 0 → ∀ m, m < 8 → Z 0 3 m = wdL T.data.toList m) ∧ PgY C Z N F'
theorem HLg.torn {T : ByteArray} {x : Int} (hN : N < 4294967296) (h : (x = 0 ∧ HLg C X A a gd cm lim (putN Y 0 3 T) N w) ∨ (x = 10 ∧ gd = false ∧ HLg C X A a gd cm lim Y N w) ∨ (x = 6 ∧ cm = false ∧ HLo C a gd Y (fun G => Mix2 (Y 0 3) (wdL T.data.toList) G) 0 3 N w)) (hg : gd = true) : (x = 0 ∨ x = 6) ∧ FLo C a gd (TornY C Y T x N) N w := by
  rcases h with ⟨rfl, h⟩ | ⟨rfl, e, _⟩ | ⟨rfl, e, h⟩
  · refine ⟨.inl rfl, (h.off hN).imp fun F' hF => ⟨_, fun g2 k2 m _ _ _ hne => if_neg hne, fun m hm => .inr (if_pos ⟨rfl, rfl⟩), fun _ m hm => if_pos ⟨rfl, rfl⟩, hF⟩⟩
  · rw [hg] at e
    exact absurd e (by decide)
  · refine ⟨.inr rfl, FLo.imp h fun F' hF => ?_⟩
    obtain ⟨Z, z1, z2, z3⟩ := hF
    exact ⟨Z, z1, z2, fun e => by omega, z3⟩
theorem HLg.putT (h : HLg C X A a true cm lim Y N w) (hN : N < 400000000) (hp : 0 < pgC C) (T : ByteArray) (hT : T.size = 64) :
    Calls Tryz.prog 20 #[.pointer (some ⟨X.pb, 0, none⟩), .int .i64 0, .int .i64 3, .string T] w fun e w' => ∃ x : Int, e = .returned (.int .i64 x) ∧ ((x = 0 ∨ x = 6) ∧ FLo C a true (TornY C Y T x (N + 42000)) (N + 42000) w') ∧ Gr (X.all ++ (A.all (cR C) ++ a.all)) w w' := by
  refine (h.put hN 0 3 hp (by omega) T hT).mono ?_
  rintro e w2 ⟨x, rfl, hx, g2⟩
  exact ⟨x, rfl, HLg.torn (by omega) hx rfl, g2⟩
/-- Pages are opened anew. -/
theorem hopen_Y {D : DevS} {B : Nat → BkS} {j : Nat → Nat} {M : Nat} (hC : OkC C) (hp : 0 < pgC C) (hf : FlD C true F V N D B j) (hy : PgY C Y M F) (hM : M ≤ N) (hd : DevIs w a D) (hN : N < 490000000) (hl : 1 ≤ lim) (hl2 : lim < 1000000) :
    Calls Tryz.prog 17 #[.pointer (some ⟨a.bd, 0, none⟩), .int .i64 (lim : Int)] w fun e w' => ∃ (X : HtA) (A : FlA), e = .returned (.tuple #[.pointer (some ⟨X.pb, 0, none⟩), .int .i64 0]) ∧ HL C X A a lim Y N w' ∧ (∀ x ∈ X.all ++ A.all (cR C), w.heap.size ≤ x) ∧ Gr [] w w' := by
  obtain ⟨fr, mv, t, m, y⟩ := hy
  refine (hopen_any hC hf hd hN hp t (fun g hg => Nat.le_trans (m g hg) hM) hl hl2).mono ?_
  rintro e w2 ⟨X, A, tk, rfl, h, n, g⟩
  exact ⟨X, A, rfl, ⟨hl, hl2, F, V, _, _, h, y⟩, n, g⟩
end
end Go.Proofs.YtefmbchebobceaaGreat

/-
  LineTorn, the walk.
-/
namespace Go.Proofs.YtefmbchebobceaaGreat
open Go.RowKit
set_option linter.unusedVariables false

theorem mixB_of {A B G : ByteArray} (hA : A.size = 64) (hB : B.size = 64) (hG : G.size = 64) (h : ∀ j, j < 8 → wdL G.data.toList j = wdL A.data.toList j ∨ wdL G.data.toList j = wdL B.data.toList j) : mixB A B G = true := by
  unfold mixB
  rw [decide_eq_true ⟨hA, hB, hG⟩, Bool.true_and, List.all_eq_true]
  intro j hj
  rw [List.mem_range] at hj
  rcases h j hj with q | q <;> simp [q]
end Go.Proofs.YtefmbchebobceaaGreat

/-
  HotTorn: the law's own cells.
-/
namespace Go.Proofs.YtefmbchebobceaaGreat
open Go.RowKit
set_option linter.unusedVariables false

/-- The list of bools that Boot is given. -/
structure Kb (g cap : Nat) (kf : Nat → Bool) (W : World) : Prop where
  cells : ∀ j, j < 16 → W.cell? ⟨g, j, none⟩ = some (.bool (kf j))
  lt : g < W.heap.size
  cp : 16 ≤ maxLen
theorem Kb.gr {g cap : Nat} {kf : Nat → Bool} {W W' : World} {bs : List Nat} (h : Kb g cap kf W) (k : Gr bs W W') (hn : g ∉ bs) : Kb g cap kf W' :=
  ⟨fun j hj => (World.cell?_of_block (w := W) (k.block g h.lt hn)).trans (h.cells j hj), Nat.lt_of_lt_of_le h.lt k.size, h.cp⟩
theorem Kb.keep {g cap : Nat} {kf : Nat → Bool} {W : World} (h : Kb g cap kf W) : KeepIs W (.slice (some ⟨g, 0, none⟩) 16 cap) 16 (fun j => if j < 16 then kf j else false) :=
  ⟨some ⟨g, 0, none⟩, cap, rfl, fun j hj => ⟨g, 0, rfl, h.lt, by rw [Nat.zero_add, h.cells j hj]; show _ = some (Value.bool (if j < 16 then kf j else false)); rw [if_pos hj]⟩, fun j hj => if_neg (by omega), h.cp⟩
theorem keep_of16 {w0 w1 : World} {v : Value} {kf : Nat → Bool} (h : w1.ownsRow w0.heap.size 4 1 v 16 ((List.range 16).map fun j => .bool (kf j))) : ∃ g cap, v = .slice (some ⟨g, 0, none⟩) 16 cap ∧ w0.heap.size ≤ g ∧ Kb g cap kf w1 := by
  have hcells := fun g (hg : v.ownBlock = some g) => h.cells hg
  have hlow := fun g (hg : v.ownBlock = some g) => h.lt g hg
  rcases h.2 with ⟨_, h0⟩ | ⟨g, cap, cur, rfl, hg, hh, _⟩
  · omega
  · refine ⟨g, cap, rfl, (hlow g rfl).1, fun j hj => ?_, (Array.getElem?_eq_some_iff.1 hh).1, by unfold maxLen; omega⟩
    have := hcells g rfl j (.bool (kf j)) (by rw [List.getElem?_map, List.getElem?_range hj]; rfl)
    rw [addp] at this
    rw [← this]
/-- What the law keeps: its boxes, its config. -/
structure Tp (w : World) (bA pb : Nat) (C : CfgZ) (s t : ByteArray) (p q r3 : Nat) (wr : World) : Prop where
  gr : Gr [] w wr
  ar : Holds wr (bA + 1) #[.string s, .string t] 91
  cu : Holds wr (bA + 1 + 1) #[.int .u16 (p : Int), .int .u16 (q : Int), .int .u16 (r3 : Int)] 93
  pl : Holds wr pb #[.int .i64 C.r, .int .i64 C.l, .int .i64 C.s, .int .i64 C.psi, .int .u64 (C.key : Int)] 27
  l1 : bA + 2 < pb
  l2 : w.heap.size ≤ bA
section
variable {w wr w2 : World} {bA pb mb gk cap : Nat} {C : CfgZ} {s t : ByteArray} {p q r3 n m : Nat} {kf : Nat → Bool} {Y : Nat → Nat → Nat → Nat}
theorem Tp.next (h : Tp w bA pb C s t p q r3 wr) {bs : List Nat} (g : Gr bs wr w2) (hb : ∀ x ∈ bs, pb < x) : Tp w bA pb C s t p q r3 w2 := by
  have h1 := h.l1
  have h2 := h.l2
  exact ⟨h.gr.nextN g fun x hx => .inr (by have := hb x hx; omega), h.ar.gr g fun hx => by have := hb _ hx; omega, h.cu.gr g fun hx => by have := hb _ hx; omega, h.pl.gr g fun hx => by have := hb _ hx; omega, h1, h2⟩
theorem Tp.next0 (h : Tp w bA pb C s t p q r3 wr) (g : Gr [] wr w2) : Tp w bA pb C s t p q r3 w2 := h.next g (by simp)
theorem Tp.cfg (h : Tp w bA pb C s t p q r3 wr) : wr.cell? ⟨pb, 0, none⟩ = some (.int .i64 C.r) ∧ wr.cell? ⟨pb, 1, none⟩ = some (.int .i64 C.l) ∧ wr.cell? ⟨pb, 2, none⟩ = some (.int .i64 C.s) ∧ wr.cell? ⟨pb, 3, none⟩ = some (.int .i64 C.psi) ∧ wr.cell? ⟨pb, 4, none⟩ = some (.int .u64 (C.key : Int)) := ⟨h.pl.cell 0, h.pl.cell 1, h.pl.cell 2, h.pl.cell 3, h.pl.cell 4⟩
/-- Besides, the map of what was read. -/
structure Tm (w : World) (bA pb mb : Nat) (C : CfgZ) (s t : ByteArray) (p q r3 : Nat) (Y : Nat → Nat → Nat → Nat) (n : Nat) (wr : World) : Prop where
  tp : Tp w bA pb C s t p q r3 wr
  mp : MapP textE 55 wr mb n (wasF Y n)
  lm : pb < mb
theorem Tm.next (h : Tm w bA pb mb C s t p q r3 Y n wr) {bs : List Nat} (g : Gr bs wr w2) (hb : ∀ x ∈ bs, pb < x ∧ x ≠ mb) : Tm w bA pb mb C s t p q r3 Y n w2 :=
  ⟨h.tp.next g fun x hx => (hb x hx).1, h.mp.gr g fun hx => (hb _ hx).2 rfl, h.lm⟩
theorem Tm.next0 (h : Tm w bA pb mb C s t p q r3 Y n wr) (g : Gr [] wr w2) : Tm w bA pb mb C s t p q r3 Y n w2 := h.next g (by simp)
theorem Tm.put (h : Tm w bA pb mb C s t p q r3 Y n wr) (g : Gr [mb] wr w2) (hm : MapP textE 55 w2 mb m (wasF Y m)) : Tm w bA pb mb C s t p q r3 Y m w2 :=
  ⟨h.tp.next g fun x hx => by have := h.lm; have := List.mem_singleton.1 hx; omega, hm, h.lm⟩
theorem Tm.look {G i k : Nat} (h : Tm w bA pb mb C s t p q r3 Y (8 * G) wr) (hi : i < G) (hG : G ≤ 1000) (hk : k < 8) : (Instr.lookup 88 (.map (some mb)) (.agg #[.int .i64 (i : Int), .int .i64 (k : Int)]) false).run Tryz.prog wr = .ok (.string (tY Y i k)) wr := by
  have h1 := h.mp.look (t := 88) pair10 Tryz.underlying88 (wfZ (z := (i : Int)) (by omega) (by omega)) (wfZ (z := (k : Int)) (by omega) (by omega))
  rw [wasF_get hi hk] at h1
  exact h1
/-- Besides, the list of bools that Boot is given. -/
structure Tz (w : World) (bA pb mb gk cap : Nat) (C : CfgZ) (s t : ByteArray) (p q r3 : Nat) (Y : Nat → Nat → Nat → Nat) (n : Nat) (kf : Nat → Bool) (wr : World) : Prop where
  tm : Tm w bA pb mb C s t p q r3 Y n wr
  kb : Kb gk cap kf wr
  lg : pb < gk
theorem Tz.next (h : Tz w bA pb mb gk cap C s t p q r3 Y n kf wr) {bs : List Nat} (g : Gr bs wr w2) (hb : ∀ x ∈ bs, pb < x ∧ x ≠ mb ∧ x ≠ gk) : Tz w bA pb mb gk cap C s t p q r3 Y n kf w2 :=
  ⟨h.tm.next g fun x hx => ⟨(hb x hx).1, (hb x hx).2.1⟩, h.kb.gr g fun hx => (hb _ hx).2.2 rfl, h.lg⟩
theorem Tz.next0 (h : Tz w bA pb mb gk cap C s t p q r3 Y n kf wr) (g : Gr [] wr w2) : Tz w bA pb mb gk cap C s t p q r3 Y n kf w2 := h.next g (by simp)
end
end Go.Proofs.YtefmbchebobceaaGreat

/-
  Layer 10: Make.
-/
namespace Go.Proofs.YtefmbchebobceaaGreat
open Go.RowKit
set_option linter.unusedVariables false

theorem mkF_zero {C : CfgZ} {l k : Nat} (hp : pgC C ≤ 64 * tbC C) (hl : 8 * tbC C ≤ l) : mkF C (pgC C) l k = 0 := if_neg (by omega)
section
variable {w w' : World} {a : DevA} {C : CfgZ}
end
end Go.Proofs.YtefmbchebobceaaGreat

/-
  Layer 5: the document's plans; the law's small.
-/
namespace Go.Proofs.YtefmbchebobceaaGreat
open Go.RowKit

theorem rplan_cells (p : PlanZ) (w : World) : (w.alloc (Obj.cells #[.int .i64 p.a, .int .i64 p.l, .int .i64 p.s] 131)).cell? ⟨w.heap.size, 0, none⟩ = some (.int .i64 p.a) ∧ (w.alloc (Obj.cells #[.int .i64 p.a, .int .i64 p.l, .int .i64 p.s] 131)).cell? ⟨w.heap.size, 1, none⟩ = some (.int .i64 p.l) ∧ (w.alloc (Obj.cells #[.int .i64 p.a, .int .i64 p.l, .int .i64 p.s] 131)).cell? ⟨w.heap.size, 2, none⟩ = some (.int .i64 p.s) := (Holds.new w _ _).three
theorem below_rplan (p : PlanZ) (w : World) : Below w.heap.size w (w.alloc (Obj.cells #[.int .i64 p.a, .int .i64 p.l, .int .i64 p.s] 131)) := (Below.refl _ w).alloc (Nat.le_refl _) _
theorem rtable_any (p : PlanZ) (hp : okZ p = true) (w : World) : Calls Tryz.prog 122 #[planV p] w fun e w' => e = .returned (.int .i64 (tabZ p)) ∧ Below w.heap.size w w' := by
  obtain ⟨a, l, s⟩ := p
  obtain ⟨h1, h2, h3, h4, h5, h6⟩ := (okZ_iff _).1 hp
  simp only at h1 h2 h3 h4 h5 h6
  unfold planV tabZ
  simp only
  have HB := Lib.hid ((Below.refl w.heap.size w).alloc (Nat.le_refl _) (Obj.cells #[.int .i64 a, .int .i64 l, .int .i64 s] 131))
  clear hp
  go_enter Tryz.func122, Tryz.ntmps122
  go_wp2
  go_ret
  exact ⟨rfl, HB.out⟩
set_option maxHeartbeats 4000000 in
theorem rsize_any (p : PlanZ) (hp : okZ p = true) (w : World) : Calls Tryz.prog 69 #[planV p] w fun e w' => e = .returned (.int .i64 (sizeZ p)) ∧ Below w.heap.size w w' := by
  obtain ⟨c0, c1, c2⟩ := rplan_cells p w
  have HB := Lib.hid (below_rplan p w)
  obtain ⟨w1, hw1⟩ : ∃ w1, w1 = w.alloc (Obj.cells #[.int .i64 p.a, .int .i64 p.l, .int .i64 p.s] 131) := ⟨_, rfl⟩
  have hl : w.heap.size < w1.heap.size := by rw [hw1, World.size_alloc]; omega
  have hs : sizeZ p = tabZ p + p.l + p.s := by unfold sizeZ; rw [if_pos hp]
  obtain ⟨h1, h2, h3, h4, h5, h6⟩ := (okZ_iff p).1 hp
  have HT := Lib.hid (fun W => show Calls Tryz.prog 122 #[.agg #[.int .i64 p.a, .int .i64 p.l, .int .i64 p.s]] W _ from rtable_any p hp W)
  have ht : 0 ≤ tabZ p ∧ tabZ p ≤ 8 := by unfold tabZ; omega
  obtain ⟨t, htt⟩ : ∃ t, t = tabZ p := ⟨_, rfl⟩
  rw [← htt] at HT hs ht
  have HS := Lib.hid hs
  have i1 : IntKind.i64.wrap (t + p.l) = t + p.l := IntWalk.i64_in _ (by omega)
  have i2 : IntKind.i64.wrap (t + p.l + p.s) = t + p.l + p.s := IntWalk.i64_in _ (by omega)
  clear hp hs htt ht
  unfold planV
  go_enter Tryz.func69, Tryz.ntmps69
  go_wp2_with fail
  rw [← hw1] at c0 c1 c2 HB ⊢
  clear hw1
  refine (HT.out _).mono ?_
  rintro e w2 ⟨rfl, hb2⟩
  replace c0 := (hb2.cell (p := ⟨w.heap.size, 0, none⟩) hl).trans c0
  replace c1 := (hb2.cell (p := ⟨w.heap.size, 1, none⟩) hl).trans c1
  replace c2 := (hb2.cell (p := ⟨w.heap.size, 2, none⟩) hl).trans c2
  have HB2 := Lib.hid (Below_nx HB.out hb2)
  clear hb2
  go_wp2_with fail
  go_ret
  exact ⟨by rw [HS.out]; rfl, HB2.out⟩
end Go.Proofs.YtefmbchebobceaaGreat

/-
  FlatMakes: the document's Check and Size of a config.
-/
namespace Go.Proofs.YtefmbchebobceaaGreat
open Go.RowKit
set_option linter.unusedVariables false

theorem rbankG9 (a l s psi : Int) (hl : -9223372036854775808 ≤ l ∧ l ≤ 9223372036854775807) (w : World) : Calls Tryz.prog 68 #[.agg #[.int .i64 a, .int .i64 l, .int .i64 s, .int .i64 psi]] w fun e w' => e = .returned (planV ⟨a, IntKind.i64.wrap (l + 2), s⟩) ∧ Gr [] w w' := by
  have HG := Lib.hid (((Gr.refl [] w).alloc (Obj.cells #[.int .i64 a, .int .i64 l, .int .i64 s, .int .i64 psi] 65)).alloc (Obj.cells #[.int .i64 0, .int .i64 0, .int .i64 0] 131))
  obtain ⟨x, hx⟩ : ∃ x : Int, IntKind.i64.wrap (l + 2) = x := ⟨_, rfl⟩
  unfold planV
  rw [hx]
  clear hl
  go_enter Tryz.func68, Tryz.ntmps68
  go_wp2_with fail
  exact bodyPost_ret (v := .agg #[.int .i64 a, .int .i64 x, .int .i64 s]) (by simp [results, Tryz.results68, go_sem]) rfl ⟨rfl, ((Gr.refl [] w).alloc _).alloc _⟩
set_option maxRecDepth 100000 in
set_option maxHeartbeats 8000000 in
theorem rplan9 (C : CfgZ) (ho : okP C) (r : Int) (hr : 0 ≤ r ∧ r ≤ 16) (w : World) : Calls Tryz.prog 26 #[cfgV C, .int .i64 r] w fun e w' => e = .returned (.agg #[.int .i64 (1 + r * regS C), .int .i64 C.l, .int .i64 C.s, .int .i64 C.psi]) ∧ Gr [] w w' := by
  have ho' := ho
  obtain ⟨h1, h2, h3, h4, h5, h6⟩ := ho
  obtain ⟨rs, hrs⟩ := regS_ok ho'
  have hb := mul_b C hr.1 hr.2
  have hbb := regS_b C
  obtain ⟨x, hx⟩ : ∃ x, x = C.l + 2 := ⟨_, rfl⟩
  have hok : okZ ⟨0, C.l + 2, C.s⟩ = true := (okZ_iff _).2 ⟨by simp only; omega, by simp only; omega, by simp only; omega, by simp only; omega, by simp only; omega, by simp only; omega⟩
  have hsz : sizeZ ⟨0, C.l + 2, C.s⟩ = regS C := by
    rw [hrs]
    unfold sizeZ
    rw [if_pos hok]
    rfl
  have HB := Lib.hid (fun W => rbankG9 0 C.l C.s C.psi (by omega) W)
  rw [show IntKind.i64.wrap (C.l + 2) = x from by rw [hx]; exact IntWalk.i64_in _ (by omega)] at HB
  have HS := Lib.hid (fun W => show Calls Tryz.prog 69 #[.agg #[.int .i64 0, .int .i64 x, .int .i64 C.s]] W (fun e w' => e = .returned (.int .i64 (regS C)) ∧ Below W.heap.size W w') from by rw [hx, ← hsz]; exact rsize_any ⟨0, C.l + 2, C.s⟩ hok W)
  unfold planV at HB
  obtain ⟨R, l, s, psi, key⟩ := C
  simp only at h1 h2 h3 h4 h5 h6
  obtain ⟨z, hz⟩ : ∃ z, z = regS ⟨R, l, s, psi, key⟩ := ⟨_, rfl⟩
  rw [← hz] at hb HS hbb ⊢
  have m1 : IntKind.i64.wrap (r * z) = r * z := IntWalk.i64_in _ (by omega)
  have m2 : IntKind.i64.wrap (1 + r * z) = 1 + r * z := IntWalk.i64_in _ (by omega)
  unfold cfgV
  have hh := Holds.new w #[.int .i64 R, .int .i64 l, .int .i64 s, .int .i64 psi, .int .u64 (key : Int)] 27
  have hg := (Gr.refl [] w).alloc (Obj.cells #[.int .i64 R, .int .i64 l, .int .i64 s, .int .i64 psi, .int .u64 (key : Int)] 27)
  have hh2 := hh.alloc (Obj.cells #[.int .i64 0, .int .i64 0, .int .i64 0, .int .i64 0] 65)
  have hr2 := Holds.new (w.alloc (Obj.cells #[.int .i64 R, .int .i64 l, .int .i64 s, .int .i64 psi, .int .u64 (key : Int)] 27)) #[.int .i64 0, .int .i64 0, .int .i64 0, .int .i64 0] 65
  rw [World.size_alloc] at hr2
  have HG := Lib.hid (And.intro hh2 (And.intro hr2 (hg.alloc (Obj.cells #[.int .i64 0, .int .i64 0, .int .i64 0, .int .i64 0] 65))))
  clear hh hg hh2 hr2 hsz hok hrs rs ho' hx hz
  go_enter Tryz.func26, Tryz.ntmps26
  go_upto_region 1 with fail
  generalize ((w.alloc (Obj.cells #[.int .i64 R, .int .i64 l, .int .i64 s, .int .i64 psi, .int .u64 (key : Int)] 27)).alloc (Obj.cells #[.int .i64 0, .int .i64 0, .int .i64 0, .int .i64 0] 65)) = w1 at *
  obtain ⟨cb, hcb⟩ : ∃ cb, w.heap.size = cb := ⟨_, rfl⟩
  have HW := Lib.hid hcb
  rw [hcb] at HG ⊢
  clear hcb
  have c1 := HG.out.1.cell 1
  have c2 := HG.out.1.cell 2
  have c3 := HG.out.1.cell 3
  go_upto_region 2 with fail
  have hp := Holds.new w1 #[.int .i64 0, .int .i64 l, .int .i64 s, .int .i64 psi] 65
  have ga := (Gr.refl [] w1).alloc (Obj.cells #[.int .i64 0, .int .i64 l, .int .i64 s, .int .i64 psi] 65)
  have H1 := Lib.hid (And.intro hp (And.intro (HG.out.2.1.gr0 ga) (HG.out.2.2.trans ga)))
  have HLT := Lib.hid (show cb + 1 < w1.heap.size from HG.out.2.1.lt)
  clear hp ga c1 c2 c3 HG
  generalize (w1.alloc (Obj.cells #[.int .i64 0, .int .i64 l, .int .i64 s, .int .i64 psi] 65)) = w2 at *
  obtain ⟨pb, hpb⟩ : ∃ pb, w1.heap.size = pb := ⟨_, rfl⟩
  rw [hpb] at H1 HLT ⊢
  clear hpb
  have p0 := H1.out.1.cell 0
  have p1 := H1.out.1.cell 1
  have p2 := H1.out.1.cell 2
  have p3 := H1.out.1.cell 3
  go_wp2_with fail
  refine (HB.out _).mono ?_
  rintro e w3 ⟨rfl, g3⟩
  have hb3 := Holds.new w3 #[.int .i64 0, .int .i64 x, .int .i64 s] 131
  have gb := (Gr.refl [] w3).alloc (Obj.cells #[.int .i64 0, .int .i64 x, .int .i64 s] 131)
  have H3 := Lib.hid (And.intro hb3 (And.intro ((H1.out.1.gr0 g3).gr0 gb) (And.intro ((H1.out.2.1.gr0 g3).gr0 gb) ((H1.out.2.2.trans g3).trans gb))))
  clear g3 hb3 gb p0 p1 p2 p3 H1
  go_upto_region 3 with fail
  generalize (w3.alloc (Obj.cells #[.int .i64 0, .int .i64 x, .int .i64 s] 131)) = w4 at *
  obtain ⟨bb, hbb⟩ : ∃ bb, w3.heap.size = bb := ⟨_, rfl⟩
  rw [hbb] at H3 ⊢
  clear hbb
  have b0 := H3.out.1.cell 0
  have b1 := H3.out.1.cell 1
  have b2 := H3.out.1.cell 2
  go_wp2_with fail
  refine (HS.out _).mono ?_
  rintro e w5 ⟨rfl, b5⟩
  have g5 : Gr [] w4 w5 := .ofBelow b5
  have H5 := Lib.hid (And.intro (H3.out.2.1.gr0 g5) (And.intro (H3.out.2.2.1.gr0 g5) (H3.out.2.2.2.trans g5)))
  clear b5 g5 b0 b1 b2 H3
  have p0 := H5.out.1.cell 0
  have fz := H5.out.1.frozen 0
  go_upto_region 5 with fail
  have hs := H5.out.1.set 0 (.int .i64 (1 + r * z))
  have H6 := Lib.hid (show Holds (w5.setCell ⟨pb, 0, none⟩ (.int .i64 (1 + r * z))) pb #[.int .i64 (1 + r * z), .int .i64 l, .int .i64 s, .int .i64 psi] 65 ∧ Holds (w5.setCell ⟨pb, 0, none⟩ (.int .i64 (1 + r * z))) (cb + 1) #[.int .i64 0, .int .i64 0, .int .i64 0, .int .i64 0] 65 ∧ Gr [] w (w5.setCell ⟨pb, 0, none⟩ (.int .i64 (1 + r * z))) from ⟨by simpa using hs, H5.out.2.1.far (by have := HLT.out; simp only; omega) _, H5.out.2.2.setCell (.inr (by have := HLT.out; have := HW.out; simp only; omega)) _⟩)
  clear hs p0 fz H5
  generalize (w5.setCell ⟨pb, 0, none⟩ (.int .i64 (1 + r * z))) = w6 at *
  have p0 := H6.out.1.cell 0
  have p1 := H6.out.1.cell 1
  have p2 := H6.out.1.cell 2
  have p3 := H6.out.1.cell 3
  have q0 := H6.out.2.1.cell 0
  have q1 := H6.out.2.1.cell 1
  have q2 := H6.out.2.1.cell 2
  have q3 := H6.out.2.1.cell 3
  have f0 := H6.out.2.1.frozen 0
  have f1 := H6.out.2.1.frozen 1
  have f2 := H6.out.2.1.frozen 2
  have f3 := H6.out.2.1.frozen 3
  have HF := Lib.hid ((((H6.out.2.2.setCell (p := ⟨cb + 1, 0, none⟩) (.inr (by have := HW.out; simp only; omega)) (.int .i64 (1 + r * z))).setCell (p := ⟨cb + 1, 1, none⟩) (.inr (by have := HW.out; simp only; omega)) (.int .i64 l)).setCell (p := ⟨cb + 1, 2, none⟩) (.inr (by have := HW.out; simp only; omega)) (.int .i64 s)).setCell (p := ⟨cb + 1, 3, none⟩) (.inr (by have := HW.out; simp only; omega)) (.int .i64 psi))
  go_wp2_with fail
  exact bodyPost_ret (v := .agg #[.int .i64 (1 + r * z), .int .i64 l, .int .i64 s, .int .i64 psi]) (by simp [results, Tryz.results26, go_sem, *]) rfl ⟨rfl, HF.out⟩
end Go.Proofs.YtefmbchebobceaaGreat

/-
  FlatMakes: the document's Check and Size of a config: what the program's are.
-/
namespace Go.Proofs.YtefmbchebobceaaGreat
open Go.RowKit
set_option linter.unusedVariables false

theorem check9_ok {C : CfgZ} {n : Int} (h : 1 ≤ C.r ∧ C.r ≤ 16 ∧ okP C) : sizeC C = 1 + C.r * regS C ∧ 1 ≤ sizeC C ∧ checkC C n = if n < 1 + C.r * regS C then 3 else 0 := by
  have hb := mul_b C (k := C.r) (by omega) h.2.1
  have hs : sizeC C = 1 + C.r * regS C := by unfold sizeC; rw [if_pos h]
  refine ⟨hs, by omega, ?_⟩
  unfold checkC
  rw [if_neg (by omega), hs]
set_option maxRecDepth 100000 in
set_option maxHeartbeats 8000000 in
theorem rsize9 (C : CfgZ) (h : 1 ≤ C.r ∧ C.r ≤ 16 ∧ okP C) (w : World) : Calls Tryz.prog 10 #[cfgV C] w fun e w' => e = .returned (.int .i64 (sizeC C)) ∧ Gr [] w w' := by
  have HP := Lib.hid (fun W => rplan9 C h.2.2 C.r ⟨by omega, h.2.1⟩ W)
  obtain ⟨z, hz⟩ : ∃ z, z = sizeC C := ⟨_, rfl⟩
  rw [← (check9_ok (n := 0) h).1, ← hz] at HP
  rw [← hz]
  clear hz h
  obtain ⟨R, l, s, psi, key⟩ := C
  unfold cfgV at HP ⊢
  have hh := Holds.new w #[.int .i64 R, .int .i64 l, .int .i64 s, .int .i64 psi, .int .u64 (key : Int)] 27
  have HG := Lib.hid ((Gr.refl [] w).alloc (Obj.cells #[.int .i64 R, .int .i64 l, .int .i64 s, .int .i64 psi, .int .u64 (key : Int)] 27))
  go_enter Tryz.func10, Tryz.ntmps10
  go_upto_region 1 with fail
  generalize (w.alloc (Obj.cells #[.int .i64 R, .int .i64 l, .int .i64 s, .int .i64 psi, .int .u64 (key : Int)] 27)) = w1 at *
  obtain ⟨cb, hcb⟩ : ∃ cb, w.heap.size = cb := ⟨_, rfl⟩
  rw [hcb] at hh ⊢
  clear hcb
  have c0 := hh.cell 0
  have c1 := hh.cell 1
  have c2 := hh.cell 2
  have c3 := hh.cell 3
  have c4 := hh.cell 4
  clear hh
  go_wp2_with fail
  with_reducible refine (HP.out _).mono ?_
  rintro e w2 ⟨rfl, g2⟩
  have hp := Holds.new w2 #[.int .i64 z, .int .i64 l, .int .i64 s, .int .i64 psi] 65
  have HG2 := Lib.hid ((HG.out.trans g2).alloc (Obj.cells #[.int .i64 z, .int .i64 l, .int .i64 s, .int .i64 psi] 65))
  clear g2 c0 c1 c2 c3 c4 HG
  go_upto_region 2 with fail
  generalize (w2.alloc (Obj.cells #[.int .i64 z, .int .i64 l, .int .i64 s, .int .i64 psi] 65)) = w3 at *
  obtain ⟨pb, hpb⟩ : ∃ pb, w2.heap.size = pb := ⟨_, rfl⟩
  rw [hpb] at hp ⊢
  clear hpb
  have p0 := hp.cell 0
  clear hp
  go_wp2_with fail
  go_ret
  exact ⟨rfl, HG2.out⟩
end Go.Proofs.YtefmbchebobceaaGreat
