/-
  Layer 17 (dir): DirOrder's walk.
-/
import Derived.Test.YtefiapmgdjlnnaaDoorDnAa
import Derived.Test.YtefiapmgdjlnnaaDoorDnAb
import Derived.Test.YtefiapmgdjlnnaaDoorDnAc
import Derived.Test.YtefiapmgdjlnnaaDoorDnAd
import Derived.Test.YtefiapmgdjlnnaaDoorDnAe
import Derived.Test.YtefiapmgdjlnnaaDoorDnAf
import Derived.Test.YtefiapmgdjlnnaaDoorDnAg
import Derived.Test.YtefiapmgdjlnnaaDoorDnAh
import Derived.Test.YtefiapmgdjlnnaaDoorDnAi
import Derived.Test.YtefiapmgdjlnnaaDoorDoAa

namespace Go.Proofs.YtefiapmgdjlnnaaDoor
open Go.RowKit Go.Shelf
set_option linter.unusedVariables false

/-- How many buckets there are when no name ever went. -/
def nbOf (n : Nat) : Nat := if n ≤ 16 then 4 else if n ≤ 32 then 8 else if n ≤ 64 then 16 else 32
theorem growB_of {F : ByteArray → Option Nat} {N : List ByteArray} {s : ByteArray} {nb : Nat} (h : nb = nbOf N.length) (hn : N.length < 128) : growB nb F N s = nbOf (putN F N s).length := by
  rw [putN_len, h]
  unfold growB
  by_cases c : (F s).isSome = true
  · rw [if_pos c, if_pos c]
  · rw [if_neg c, if_neg c]
    unfold nbOf
    by_cases h1 : N.length ≤ 15
    · rw [if_pos (show N.length ≤ 16 by omega), if_pos (show N.length + 1 ≤ 16 by omega), if_neg (by omega)]
    · by_cases h2 : N.length = 16
      · rw [h2]; rfl
      · by_cases h3 : N.length ≤ 31
        · rw [if_neg (show ¬ N.length ≤ 16 by omega), if_pos (show N.length ≤ 32 by omega), if_neg (show ¬ N.length + 1 ≤ 16 by omega), if_pos (show N.length + 1 ≤ 32 by omega), if_neg (by omega)]
        · by_cases h4 : N.length = 32
          · rw [h4]; rfl
          · by_cases h5 : N.length ≤ 63
            · rw [if_neg (show ¬ N.length ≤ 16 by omega), if_neg (show ¬ N.length ≤ 32 by omega), if_pos (show N.length ≤ 64 by omega), if_neg (show ¬ N.length + 1 ≤ 16 by omega), if_neg (show ¬ N.length + 1 ≤ 32 by omega), if_pos (show N.length + 1 ≤ 64 by omega), if_neg (by omega)]
            · by_cases h6 : N.length = 64
              · rw [h6]; rfl
              · rw [if_neg (show ¬ N.length ≤ 16 by omega), if_neg (show ¬ N.length ≤ 32 by omega), if_neg (show ¬ N.length ≤ 64 by omega), if_neg (show ¬ N.length + 1 ≤ 16 by omega), if_neg (show ¬ N.length + 1 ≤ 32 by omega), if_neg (show ¬ N.length + 1 ≤ 64 by omega), if_neg (by omega)]
theorem EntAt.gr0 {w w' : World} {g : Nat} {L : List (ByteArray × Nat)} (h : EntAt w g L) (hg : g < w.heap.size) (k : Gr [] w w') : EntAt w' g L := fun i hi => ⟨(k.cell0 hg).trans (h i hi).1, (k.cell0 hg).trans (h i hi).2⟩
/-- Integers in memory. -/
def IntAt (w : World) (g n : Nat) (f : Nat → Nat) : Prop := ∀ i, i < n → w.cell? ⟨g, i, none⟩ = some (.int .i64 (f i : Int))
theorem IntAt.gr0 {w w' : World} {g n : Nat} {f : Nat → Nat} (h : IntAt w g n f) (hg : g < w.heap.size) (k : Gr [] w w') : IntAt w' g n f := fun i hi => (k.cell0 hg).trans (h i hi)
theorem nbOf_le (n : Nat) : nbOf n ≤ 32 := by
  unfold nbOf
  by_cases h1 : n ≤ 16
  · rw [if_pos h1]; omega
  · rw [if_neg h1]
    by_cases h2 : n ≤ 32
    · rw [if_pos h2]; omega
    · rw [if_neg h2]
      by_cases h3 : n ≤ 64
      · rw [if_pos h3]; omega
      · rw [if_neg h3]; omega
/-- Two directories, each with its own names. -/
structure Dd (w wr : World) (A B : DiA) (F G : ByteArray → Option Nat) (N M : List ByteArray) (ga gb : Nat → Nat) (ja jb : Nat) : Prop where
  a : DiIs wr A F N
  b : DiIs wr B G M
  gr : Gr [] w wr
  la : ∀ x ∈ A.all, w.heap.size ≤ x
  lb : ∀ x ∈ B.all, w.heap.size ≤ x
  ab : ∀ x ∈ A.all, x ∉ B.all
  fa : ∀ s v, F s = some v ↔ ∃ j, j < ja ∧ s = nmI 110 (ga j) ∧ v = ga j
  fb : ∀ s v, G s = some v ↔ ∃ j, j < jb ∧ s = nmI 110 (gb j) ∧ v = gb j
  na : A.nb = nbOf N.length
  nb : B.nb = nbOf M.length
  ka : N.length ≤ ja
  kb : M.length ≤ jb
section
variable {w wr w2 : World} {A B A' : DiA} {F G : ByteArray → Option Nat} {N M : List ByteArray} {ga gb : Nat → Nat} {ja jb : Nat}
theorem Dd.swap (h : Dd w wr A B F G N M ga gb ja jb) : Dd w wr B A G F M N gb ga jb ja := ⟨h.b, h.a, h.gr, h.lb, h.la, fun x hb ha => h.ab x ha hb, h.fb, h.fa, h.nb, h.na, h.kb, h.ka⟩
theorem Dd.gr0 (h : Dd w wr A B F G N M ga gb ja jb) (g : Gr [] wr w2) : Dd w w2 A B F G N M ga gb ja jb := ⟨h.a.gr0 g, h.b.gr0 g, h.gr.next0 g, h.la, h.lb, h.ab, h.fa, h.fb, h.na, h.nb, h.ka, h.kb⟩
theorem Dd.put (h : Dd w wr A B F G N M ga gb ja jb) (hj : ja < 100) {s : ByteArray} (hs : s = nmI 110 (ga ja)) (h1 : A'.nb = growB A.nb F N s) (h2 : DiIs w2 A' (updT F s (some (ga ja))) (putN F N s)) (h3 : ∀ x ∈ A'.all, x ∈ A.all ∨ wr.heap.size ≤ x) (h4 : Gr A.all wr w2) :
    Dd w w2 A' B (updT F s (some (ga ja))) G (putN F N s) M ga gb (ja + 1) jb := by
  have hsz := h.gr.size
  refine ⟨h2, h.b.gr h4 fun x hb ha => h.ab x ha hb, h.gr.nextN h4 fun x hx => .inr (h.la x hx), fun x hx => ?_, h.lb, fun x hx hb => ?_, fun y v => ?_, h.fb, ?_, h.nb, ?_, h.kb⟩
  · rcases h3 x hx with q | q
    · exact h.la x q
    · omega
  · rcases h3 x hx with q | q
    · exact h.ab x q hb
    · have := h.b.lt x hb; omega
  · unfold updT
    by_cases e : y = s
    · rw [if_pos e]
      constructor
      · intro q; injection q with q; exact ⟨ja, by omega, e.trans hs, q.symm⟩
      · rintro ⟨j, hj, h5, h6⟩
        rw [h6, ← nmI_inj ((e.trans hs).symm.trans h5)]
    · rw [if_neg e, h.fa y v]
      constructor
      · rintro ⟨j, hj, q⟩; exact ⟨j, by omega, q⟩
      · rintro ⟨j, hj, h5, h6⟩
        by_cases e2 : j = ja
        · subst e2; exact absurd (h5.trans hs.symm) e
        · exact ⟨j, by omega, h5, h6⟩
  · rw [h1]; exact growB_of h.na (by have := h.ka; omega)
  · rw [putN_len]; have := h.ka; split <;> omega
end
theorem rot (n t j : Nat) (h : j < n) : ∃ i, i < n ∧ (i + t) % n = j := by
  refine ⟨(j + (n - t % n)) % n, Nat.mod_lt _ (by omega), ?_⟩
  rw [Nat.mod_add_mod]
  have h1 := Nat.mod_add_div t n
  have h2 := Nat.mod_lt t (show 0 < n by omega)
  rw [show j + (n - t % n) + t = j + n + n * (t / n) by omega, Nat.add_mul_mod_self_left, Nat.add_mod_right, Nat.mod_eq_of_lt h]
/-- The same names, in whatever order they came. -/
theorem Dd.same {w wr : World} {A B : DiA} {F G : ByteArray → Option Nat} {N M : List ByteArray} {ga gb : Nat → Nat} {n t : Nat} (h : Dd w wr A B F G N M ga gb n n) (hg : ∀ j, j < n → gb j = ga ((j + t) % n)) : G = F ∧ N.Perm M ∧ B.nb = A.nb := by
  have e : G = F := by
    funext s
    refine Option.ext fun v => (h.fb s v).trans (Iff.trans ?_ (h.fa s v).symm)
    constructor
    · rintro ⟨j, hj, h1, h2⟩
      rw [hg j hj] at h1 h2
      exact ⟨(j + t) % n, Nat.mod_lt _ (by omega), h1, h2⟩
    · rintro ⟨j, hj, h1, h2⟩
      obtain ⟨i, hi, e⟩ := rot n t j hj
      exact ⟨i, hi, by rw [hg i hi, e]; exact h1, by rw [hg i hi, e]; exact h2⟩
  have hp : N.Perm M := h.a.ok.perm (by rw [← e]; exact h.b.ok)
  exact ⟨e, hp, by rw [h.nb, h.na, hp.length_eq]⟩
set_option maxHeartbeats 40000000 in
set_option maxRecDepth 100000 in
theorem dirorder_law {w : World} (v0 : Value) (xs : List Int) (t : Nat) (htab : Lib.TabIs Tryd.prog w "internal/strconv.uint64pow10" .u64 Lib.pow10Tab) (h0 : SlI .u16 w v0 xs) (hw : ∀ x ∈ xs, (Lit.int .u16 x).wf = true) (ht : t < 256) :
    Calls Tryd.prog 6 #[v0, .int .u8 (t : Int)] w fun e w' => e = .returned (.bool true) ∧ Gr [] w w' := by
  have HTB := Lib.hid (Lib.tabBelow_of_tabIs htab)
  have HV := Lib.hid h0
  have HW := Lib.hid hw
  have HT := Lib.hid ht
  clear htab h0 hw
  go_enter Tryd.func6, Tryd.ntmps6
  go_upto_region 1 with fail
  go_cut [0] (fun sv wz => wz = w ∧ ∃ (M cap : Nat) (ao : Option Addr) (ga : Nat → Nat), sv = .slice ao M cap ∧ M ≤ 80 ∧ ∀ k, k < M → ga k < 65536 ∧ ∃ (vb off : Nat), ao = some ⟨vb, off, none⟩ ∧ vb < w.heap.size ∧ w.cell? ⟨vb, off + k, none⟩ = some (.int .u16 (ga k : Int)))
  case first =>
    rcases HV.out with ⟨ao, cap, rfl, rfl, hn, hm⟩ | ⟨vb, off, cap, rfl, hp1, hp2, hp3, hp4, hp5⟩
    · have hmn := minIs17 Tryd.prog 0 0 80 80 rfl rfl
      have HNN := Lib.hid hn
      unfold maxLen at hm
      clear hn HV HW
      cases ao
      case none =>
        obtain rfl := HNN.out rfl
        go_wp2_with fail
        go_meet
        exact ⟨rfl, 0, 0, none, fun _ => 0, rfl, by omega, fun k hk => by omega⟩
      case some ad =>
        go_wp2_with fail
        go_meet
        exact ⟨rfl, 0, _, _, fun _ => 0, rfl, by omega, fun k hk => by omega⟩
    · obtain ⟨M, hM⟩ : ∃ M, M = min xs.length 80 := ⟨_, rfl⟩
      have hmn := minIs17 Tryd.prog xs.length M 80 80 rfl hM
      have hM1 : M ≤ xs.length := by omega
      have HM12 := Lib.hid (show M ≤ 80 by omega)
      have HCl := Lib.hid hp5
      have HVB := Lib.hid hp4
      unfold maxLen at hp3
      have HML1 := Lib.hid hM1
      have HFn := Lib.hid (show ∀ k, k < M → (xs.getD k 0).toNat < 65536 ∧ ∃ (vb' off' : Nat), (some ⟨vb, off, none⟩ : Option Addr) = some ⟨vb', off', none⟩ ∧ vb' < w.heap.size ∧ w.cell? ⟨vb', off' + k, none⟩ = some (.int .u16 ((xs.getD k 0).toNat : Int)) from fun k hk => by
        have hkl : k < xs.length := by have := HML1.out; omega
        obtain ⟨x, hx1, hx2⟩ := natU16 (HW.out xs[k] (List.getElem_mem hkl))
        have e : xs.getD k 0 = (x : Int) := by rw [List.getD_eq_getElem?_getD, List.getElem?_eq_getElem hkl]; exact hx1
        rw [e, Int.toNat_natCast]
        exact ⟨hx2, vb, off, rfl, HVB.out, by rw [← hx1]; exact HCl.out k _ (List.getElem?_eq_getElem hkl)⟩)
      clear hM hp4 hp5 HV HCl HVB HW
      go_wp2_with fail
      go_meet
      exact ⟨rfl, M, _, _, _, rfl, HM12.out, HFn.out⟩
  case rest =>
    obtain ⟨hwc, M, cap, ao, ga, rfl, hM, hcl⟩ := hcut
    have HCl := Lib.hid hcl
    have HM := Lib.hid hM
    have HGw := Lib.hid (show Gr [] w wc from by rw [hwc]; exact Gr.refl _ _)
    clear hcl HV HW hM hwc
    have HNa := Lib.hid (dnew_any wc)
    go_wp2_with fail
    refine HNa.out.mono ?_
    rintro e w1 ⟨A, rfl, n1, d1, l1, g1⟩
    have H1 := Lib.hid (And.intro d1 (And.intro (HGw.out.next0 g1) (And.intro n1 l1)))
    have HNb := Lib.hid (dnew_any w1)
    clear HNa n1 d1 l1 g1
    go_wp2_with fail
    refine HNb.out.mono ?_
    rintro e w2 ⟨B, rfl, n2, d2, l2, g2⟩
    obtain ⟨gb, hgb⟩ : ∃ gb : Nat → Nat, ∀ j, gb j = ga ((j + t) % M) := ⟨fun j => ga ((j + t) % M), fun _ => rfl⟩
    have HGb := Lib.hid hgb
    have H2 := Lib.hid (show Dd w w2 A B (fun _ => none) (fun _ => none) [] [] ga gb 0 0 from
      ⟨H1.out.1.gr0 g2, d2, H1.out.2.1.next0 g2, fun x hx => by have := H1.out.2.2.2 x hx; have := HGw.out.size; omega, fun x hx => by have := l2 x hx; have := H1.out.2.1.size; omega, fun x ha hb => by have := H1.out.1.lt x ha; have := l2 x hb; omega,
        fun s v => ⟨(fun e => by cases e), fun ⟨j, hj, _⟩ => absurd hj (by omega)⟩, fun s v => ⟨(fun e => by cases e), fun ⟨j, hj, _⟩ => absurd hj (by omega)⟩, H1.out.2.2.1, n2, by simp, by simp⟩)
    clear HNb n2 d2 l2 g2 H1 hgb HGw
    obtain ⟨da, hda⟩ : ∃ x, A.db = x := ⟨_, rfl⟩
    obtain ⟨db, hdb⟩ : ∃ x, B.db = x := ⟨_, rfl⟩
    rw [hda, hdb]
    have HDB := Lib.hid (And.intro hda hdb)
    clear hda hdb
    go_upto_region 4 with fail
    go_loopw [24] (fun z wr => ∃ (i : Nat) (A B : DiA) (F G : ByteArray → Option Nat) (N K : List ByteArray), i ≤ M ∧ z = .int .i64 (i : Int) ∧ A.db = da ∧ B.db = db ∧ Dd w wr A B F G N K ga gb i i) (fun z _ => M - (intOf z).toNat)
    case atStart => exact ⟨0, A, B, _, _, _, _, by omega, rfl, HDB.out.1, HDB.out.2, H2.out⟩
    case round =>
      clear H2 HDB A B
      obtain ⟨i, A, B, F, G, N, K, hi, rfl, rfl, rfl, Q⟩ := hrel
      have HQ := Lib.hid Q
      clear Q
      by_cases hlt : i < M
      · as_aux_lemma =>
          have hMm := HM.out
          have ht2 := HT.out
          obtain ⟨kx, hkx⟩ : ∃ x, x = (i + t) % M := ⟨_, rfl⟩
          have hkl : kx < M := by rw [hkx]; exact Nat.mod_lt _ (by omega)
          obtain ⟨hga, vb, off, rfl, hvb, ca⟩ := HCl.out i hlt
          obtain ⟨hgk, vb2, off2, hao, hvb2, ck⟩ := HCl.out kx hkl
          injection hao with hao
          injection hao with hao1 hao2
          subst hao1 hao2
          have HCA := Lib.hid ca
          have HVb := Lib.hid hvb
          have ck := (HQ.out.gr.cell0 hvb).trans ck
          have t1 : ((i : Int) + (t : Int)).tmod (M : Int) = (kx : Int) := by rw [hkx, ← Int.natCast_add]; exact (Int.ofNat_tmod (i + t) M).symm
          have u1 : IntKind.i64.wrap (t : Int) = (t : Int) := IntWalk.i64_in _ (by omega)
          have u2 : IntKind.i64.wrap (kx : Int) = (kx : Int) := IntWalk.i64_in _ (by omega)
          have z1 : ¬ (M : Int) = 0 := by omega
          have z2 : ((M : Int) == 0) = false := by simp; omega
          have ik : (i : Int) < (M : Int) := by omega
          have ik0 : (0 : Int) ≤ (i : Int) := by omega
          have kk : (kx : Int) < (M : Int) := by omega
          have kk0 : (0 : Int) ≤ (kx : Int) := by omega
          obtain ⟨a, hav⟩ : ∃ a, a = ga i := ⟨_, rfl⟩
          obtain ⟨b, hbv⟩ : ∃ b, b = ga kx := ⟨_, rfl⟩
          have HA := Lib.hid hav
          have HBv := Lib.hid (show b = gb i from by rw [hbv, HGb.out i, hkx])
          rw [← hav] at HCA hga
          rw [← hbv] at ck hgk
          have HAB := Lib.hid (And.intro hga hgk)
          clear hkx hkl hvb hvb2 hga hgk hav hbv ca
          go_upto_region 7 with fail
          clear ck t1 u1 u2 z1 z2 kk kk0 ht2
          have ua : IntKind.i64.wrap (a : Int) = (a : Int) := IntWalk.i64_in _ (by have := HAB.out; omega)
          have ub : IntKind.i64.wrap (b : Int) = (b : Int) := IntWalk.i64_in _ (by have := HAB.out; omega)
          have HIa := Lib.hid (fun W (g : Gr [] w W) => itoa_nat a (by have := HAB.out; omega) W (HTB.out _ g.below0))
          have HIb := Lib.hid (fun W (g : Gr [] w W) => itoa_nat b (by have := HAB.out; omega) W (HTB.out _ g.below0))
          obtain ⟨Ta, hTa⟩ : ∃ T : ByteArray, T = ⟨(Lib.decDigits a).toArray⟩ := ⟨_, rfl⟩
          obtain ⟨Tb, hTb⟩ : ∃ T : ByteArray, T = ⟨(Lib.decDigits b).toArray⟩ := ⟨_, rfl⟩
          have hTas : Ta.size ≤ 100 := by
            have := dec_len 4 a (by have := HAB.out; omega)
            rw [hTa]
            show (Lib.decDigits a).toArray.size ≤ 100
            rw [List.size_toArray]; omega
          have hTbs : Tb.size ≤ 100 := by
            have := dec_len 4 b (by have := HAB.out; omega)
            rw [hTb]
            show (Lib.decDigits b).toArray.size ≤ 100
            rw [List.size_toArray]; omega
          have HEa := Lib.hid (show (⟨#[110]⟩ : ByteArray) ++ Ta = nmI 110 a from by rw [hTa]; rfl)
          have HEb := Lib.hid (show (⟨#[110]⟩ : ByteArray) ++ Tb = nmI 110 b from by rw [hTb]; rfl)
          rw [← hTa] at HIa
          rw [← hTb] at HIb
          have e1 : (⟨#[110]⟩ : ByteArray).size = 1 := rfl
          have va := fun (W : World) => run_string_add_sum (P := Tryd.prog) (w := W) ⟨#[110]⟩ Ta (by rw [e1]; omega)
          have vb' := fun (W : World) => run_string_add_sum (P := Tryd.prog) (w := W) ⟨#[110]⟩ Tb (by rw [e1]; omega)
          have HPa := Lib.hid (fun W (h : Dd w W A B F G N K ga gb i i) => dput_ok h.a ((⟨#[110]⟩ : ByteArray) ++ Ta) a (by rw [HEa.out]; exact nmI_name (by decide) (by decide) (by have := HAB.out; omega)) (by have := HAB.out; omega) (by rw [h.na]; have := nbOf_le N.length; omega))
          have HPb := Lib.hid (fun W A' F' N' (h : Dd w W A' B F' G N' K ga gb (i + 1) i) => dput_ok h.b ((⟨#[110]⟩ : ByteArray) ++ Tb) b (by rw [HEb.out]; exact nmI_name (by decide) (by decide) (by have := HAB.out; omega)) (by have := HAB.out; omega) (by rw [h.nb]; have := nbOf_le K.length; omega))
          have HIM := Lib.hid (show i < 80 by omega)
          have H0 := Lib.hid (HQ.out.gr0 ((Gr.refl [] wr).drew))
          have HCe := Lib.hid (fun W (g : Gr [] w W) => (g.cell0 HVb.out).trans HCA.out)
          have s0 : wr.drew.cell? ⟨vb, off + i, none⟩ = some (.int .u16 (a : Int)) := HCe.out _ H0.out.gr
          have s0' : Gr [] w wr.drew := H0.out.gr
          clear hTa hTb HQ
          go_region_held3 (fun w' : World => w'.cell? ⟨vb, off + i, none⟩ = some (.int .u16 (a : Int)) ∧ Gr [] w w') (with_reducible (first | assumption | exact ⟨by assumption, by assumption⟩)) ((first
            | (go_at_call 25; (with_reducible refine (HIa.out _ (And.right (by assumption))).mono ?_); rintro e w3 ⟨rfl, g3⟩; have H3 := Lib.hid (H0.out.gr0 g3); have s3 := HCe.out _ H3.out.gr; have s3' := H3.out.gr; clear g3)
            | (go_at_call 9; (with_reducible refine (HPa.out _ H3.out).mono ?_); rintro e w4 ⟨rfl, A4, e4, n4, d4, l4, g4⟩; have H4 := Lib.hid (show A4.db = A.db ∧ Dd w w4 A4 B _ G _ K ga gb (i + 1) i from ⟨e4, by have q := H3.out.put (by have := HIM.out; omega) (HEa.out.trans (by rw [HA.out])) n4 (by rw [← HA.out]; exact d4) l4 g4; exact q⟩); have s4 := HCe.out _ H4.out.2.gr; have s4' := H4.out.2.gr; clear n4 d4 l4 g4 e4)
            | (go_at_call 25; (with_reducible refine (HIb.out _ (And.right (by assumption))).mono ?_); rintro e w5 ⟨rfl, g5⟩; have H5 := Lib.hid (And.intro H4.out.1 (H4.out.2.gr0 g5)); have s5 := HCe.out _ H5.out.2.gr; have s5' := H5.out.2.gr; clear g5)
            | (go_at_call 9; (with_reducible refine (HPb.out _ _ _ _ H5.out.2).mono ?_); rintro e w6 ⟨rfl, B6, e6, n6, d6, l6, g6⟩; have H6 := Lib.hid (show A4.db = A.db ∧ B6.db = B.db ∧ Dd w w6 A4 B6 _ _ _ _ ga gb (i + 1) (i + 1) from ⟨H5.out.1, e6, by have q := (H5.out.2.swap.put (by have := HIM.out; omega) (HEb.out.trans (by rw [HBv.out])) n6 (by rw [← HBv.out]; exact d6) l6 g6).swap; exact q⟩); have s6 := HCe.out _ H6.out.2.2.gr; have s6' := H6.out.2.2.gr; clear n6 d6 l6 g6 e6)))
          go_wp2_with fail
          go_roundw
          case rel => exact ⟨i + 1, _, _, _, _, _, _, by omega, by go_num, H6.out.1, H6.out.2.1, H6.out.2.2⟩
          case measure => simp [intOf]; omega
      · obtain rfl : i = M := by omega
        have HSm := Lib.hid (HQ.out.same (t := t) fun j _ => HGb.out j)
        have HLa := Lib.hid (dlist_any HQ.out.a)
        have hlen1 : N.length ≤ 80 := by have := HQ.out.ka; have := HM.out; omega
        have hnb1 : A.nb ≤ 32 := by rw [HQ.out.na]; exact nbOf_le _
        clear HCl hlt hi HTB HGb
        go_wp2_with fail
        refine HLa.out.mono ?_
        rintro e w3 ⟨gx, capx, L, rfl, _, b1, b2, b3, b4, g3⟩
        have H3 := Lib.hid (And.intro (HQ.out.gr0 g3) (And.intro b1 (And.intro b2 (And.intro b3 b4))))
        clear b1 b2 b3 b4 g3 HLa HQ
        have HLb := Lib.hid (dlist_any H3.out.1.b)
        go_wp2_with fail
        refine HLb.out.mono ?_
        rintro e w4 ⟨gy, capy, L2, rfl, _, b1, b2, b3, b4, g4⟩
        obtain rfl : L2 = L := b3.uniq (by rw [HSm.out.1]; exact H3.out.2.2.2.1)
        have hll : L2.length ≤ 80 := by rw [H3.out.2.2.2.2]; exact hlen1
        have H4 := Lib.hid (show Dd w w4 A B F G N K ga gb i i ∧ (gx < w4.heap.size ∧ EntAt w4 gx L2) ∧ (gy < w4.heap.size ∧ EntAt w4 gy L2) from ⟨H3.out.1.gr0 g4, ⟨Nat.lt_of_lt_of_le H3.out.2.1 g4.size, H3.out.2.2.1.gr0 H3.out.2.1 g4⟩, b1, b2⟩)
        clear b1 b2 b3 b4 g4 HLb H3
        have HBa := Lib.hid (dbuckets_any H4.out.1.a)
        go_wp2_with fail
        refine HBa.out.mono ?_
        rintro e w5 ⟨gp, capp, rfl, _, b1, b2, g5⟩
        have H5 := Lib.hid (show Dd w w5 A B F G N K ga gb i i ∧ (gx < w5.heap.size ∧ EntAt w5 gx L2) ∧ (gy < w5.heap.size ∧ EntAt w5 gy L2) ∧ (gp < w5.heap.size ∧ IntAt w5 gp A.nb fun t => cntB A.nb t N) from ⟨H4.out.1.gr0 g5, ⟨Nat.lt_of_lt_of_le H4.out.2.1.1 g5.size, H4.out.2.1.2.gr0 H4.out.2.1.1 g5⟩, ⟨Nat.lt_of_lt_of_le H4.out.2.2.1 g5.size, H4.out.2.2.2.gr0 H4.out.2.2.1 g5⟩, b1, b2⟩)
        clear b1 b2 g5 HBa H4
        have HBb := Lib.hid (dbuckets_any H5.out.1.b)
        rw [HSm.out.2.2] at HBb
        go_wp2_with fail
        refine HBb.out.mono ?_
        rintro e w6 ⟨gq, capq, rfl, _, b1, b2, g6⟩
        have H6 := Lib.hid (show Dd w w6 A B F G N K ga gb i i ∧ (gx < w6.heap.size ∧ EntAt w6 gx L2) ∧ (gy < w6.heap.size ∧ EntAt w6 gy L2) ∧ (gp < w6.heap.size ∧ IntAt w6 gp A.nb fun t => cntB A.nb t N) ∧ (gq < w6.heap.size ∧ IntAt w6 gq A.nb fun t => cntB A.nb t N) from ⟨H5.out.1.gr0 g6, ⟨Nat.lt_of_lt_of_le H5.out.2.1.1 g6.size, H5.out.2.1.2.gr0 H5.out.2.1.1 g6⟩, ⟨Nat.lt_of_lt_of_le H5.out.2.2.1.1 g6.size, H5.out.2.2.1.2.gr0 H5.out.2.2.1.1 g6⟩, ⟨Nat.lt_of_lt_of_le H5.out.2.2.2.1 g6.size, H5.out.2.2.2.2.gr0 H5.out.2.2.2.1 g6⟩, b1, fun j hj => by rw [b2 j hj, ← cntB_perm HSm.out.2.1]⟩)
        clear b1 b2 g6 HBb H5 HSm
        have HWk := Lib.hid (wakes17 w6)
        go_wp2_with fail
        refine HWk.out.mono ?_
        rintro e w7 ⟨rfl, g7⟩
        have H7 := Lib.hid (show Gr [] w w7 ∧ EntAt w7 gx L2 ∧ EntAt w7 gy L2 ∧ IntAt w7 gp A.nb (fun t => cntB A.nb t N) ∧ IntAt w7 gq A.nb (fun t => cntB A.nb t N) from ⟨H6.out.1.gr.next0 g7, H6.out.2.1.2.gr0 H6.out.2.1.1 g7, H6.out.2.2.1.2.gr0 H6.out.2.2.1.1 g7, H6.out.2.2.2.1.2.gr0 H6.out.2.2.2.1.1 g7, H6.out.2.2.2.2.2.gr0 H6.out.2.2.2.2.1 g7⟩)
        clear g7 HWk H6
        go_upto_region 15 with fail
        go_loopw [90] (fun z wr => ∃ j : Nat, j ≤ L2.length ∧ z = .int .i64 (j : Int) ∧ Gr [] w7 wr) (fun z _ => L2.length - (intOf z).toNat)
        case atStart => exact ⟨0, by omega, rfl, Gr.refl _ _⟩
        case round =>
          obtain ⟨j, hj, rfl, gj⟩ := hrel
          by_cases hlt : j < L2.length
          · as_aux_lemma =>
              have jb : (j : Int) < (L2.length : Int) := by omega
              have jb0 : (0 : Int) ≤ (j : Int) := by omega
              have HJ := Lib.hid (show ∀ g : Nat, EntAt w7 g L2 → g < w7.heap.size → wr.cell? ⟨g, j * 2, none⟩ = some (.string L2[j].1) ∧ wr.cell? ⟨g, j * 2 + 1, none⟩ = some (.int .i64 (L2[j].2 : Int)) from fun g he hg => ⟨(gj.cell0 hg).trans (he j hlt).1, (gj.cell0 hg).trans (he j hlt).2⟩)
              have hx := HJ.out gx H7.out.2.1 (World.block_lt_of_cell? w7 _ (H7.out.2.1 j hlt).1)
              have hy := HJ.out gy H7.out.2.2.1 (World.block_lt_of_cell? w7 _ (H7.out.2.2.1 j hlt).1)
              obtain ⟨sj, hsj⟩ : ∃ s, s = L2[j].1 := ⟨_, rfl⟩
              obtain ⟨vj, hvj⟩ : ∃ s, s = L2[j].2 := ⟨_, rfl⟩
              rw [← hsj, ← hvj] at hx hy
              clear hsj hvj HJ
              go_upto_region 17 with fail
              have k0 := kp_cell hx.1
              have k1 := kp_cell hx.2
              have k2 := kp_cell hy.1
              have k3 := kp_cell hy.2
              have hne := kp_ne wr
              have HGj := Lib.hid gj
              clear hx hy gj
              refine wp_region_kp (by kernel_rfl) (by kernel_rfl) ?_
              repeat (go_big_quiet_step (fail))
              with_reducible refine wpQuiet_nil ?_
              rintro _ ⟨y, rfl⟩
              have HG2 := Lib.hid (HGj.out.next0 (Gr.ofBelow (cs := []) y.h))
              clear k0 k1 k2 k3 hne HGj
              generalize y.w = w8 at *
              clear y
              go_wp2_with fail
              go_roundw
              case rel => exact ⟨j + 1, by omega, by go_num, HG2.out⟩
              case measure => simp [intOf]; omega
          · obtain rfl : j = L2.length := by omega
            have H8 := Lib.hid (show Gr [] w wr ∧ IntAt wr gp A.nb (fun t => cntB A.nb t N) ∧ IntAt wr gq A.nb (fun t => cntB A.nb t N) from ⟨H7.out.1.next0 gj, fun t ht => (gj.cell0 (World.block_lt_of_cell? w7 _ (H7.out.2.2.2.1 t ht))).trans (H7.out.2.2.2.1 t ht), fun t ht => (gj.cell0 (World.block_lt_of_cell? w7 _ (H7.out.2.2.2.2 t ht))).trans (H7.out.2.2.2.2 t ht)⟩)
            clear H7 hlt hj gj
            go_upto_region 21 with fail
            go_loopw [105] (fun z wx => ∃ j : Nat, j ≤ A.nb ∧ z = .int .i64 (j : Int) ∧ Gr [] wr wx) (fun z _ => A.nb - (intOf z).toNat)
            case atStart => exact ⟨0, by omega, rfl, Gr.refl _ _⟩
            case round =>
              obtain ⟨j, hj, rfl, gj⟩ := hrel
              by_cases hlt : j < A.nb
              · as_aux_lemma =>
                  have jb : (j : Int) < (A.nb : Int) := by omega
                  have jb0 : (0 : Int) ≤ (j : Int) := by omega
                  have hx := (gj.cell0 (World.block_lt_of_cell? _ _ (H8.out.2.1 j hlt))).trans (H8.out.2.1 j hlt)
                  have hy := (gj.cell0 (World.block_lt_of_cell? _ _ (H8.out.2.2 j hlt))).trans (H8.out.2.2 j hlt)
                  dsimp only at hx hy
                  obtain ⟨cj, hcj⟩ : ∃ s, s = cntB A.nb j N := ⟨_, rfl⟩
                  rw [← hcj] at hx hy
                  clear hcj
                  go_upto_region 23 with fail
                  have k0 := kp_cell hx
                  have k2 := kp_cell hy
                  have hne := kp_ne wr
                  have HGj := Lib.hid gj
                  clear hx hy gj
                  refine wp_region_kp (by kernel_rfl) (by kernel_rfl) ?_
                  repeat (go_big_quiet_step (fail))
                  with_reducible refine wpQuiet_nil ?_
                  rintro _ ⟨y, rfl⟩
                  have HG2 := Lib.hid (HGj.out.next0 (Gr.ofBelow (cs := []) y.h))
                  clear k0 k2 hne HGj
                  generalize y.w = w8 at *
                  clear y
                  go_wp2_with fail
                  go_roundw
                  case rel => exact ⟨j + 1, by omega, by go_num, HG2.out⟩
                  case measure => simp [intOf]; omega
              · obtain rfl : j = A.nb := by omega
                go_wp2_with fail
                go_ret
                exact ⟨rfl, H8.out.1.next0 gj⟩
theorem walk_DirOrder {w : World} (v0 : Value) (xs : List Int) (x : Int) (h0 : SlI .u16 w v0 xs) (hw : ∀ x ∈ xs, (Lit.int .u16 x).wf = true) (hx : (Lit.int .u8 x).wf = true) (htab : Lib.TabIs Tryd.prog w "internal/strconv.uint64pow10" .u64 Lib.pow10Tab) :
    Calls Tryd.prog 6 #[v0, .int .u8 x] w fun e w' => e = .returned (.bool true) ∧ Below w.heap.size w w' := by
  obtain ⟨k, rfl, hk⟩ := natU8 hx
  exact (dirorder_law v0 xs k htab h0 hw hk).mono fun _ _ q => ⟨q.1, q.2.below0⟩
end Go.Proofs.YtefiapmgdjlnnaaDoor
