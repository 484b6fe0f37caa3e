/-
  Layer 16: the program's Parse of any bytes.
-/
import Derived.Test.YtpkhfdcokcchdabInL
import Derived.Deep.RegionHeld3
import Derived.RegionTactic
import Derived.Deep.CutBlock
import Derived.Deep.DeepCutAuto
namespace Go.Proofs.Ytpkhfdcokcchdab
open Go.RowKit

theorem sl2_nil0 (w : World) : Sl2 w (.slice none 0 0) [] := ⟨none, 0, rfl, Rd2.nil _ _, Nat.le_refl _, Nat.zero_le _, fun _ => rfl⟩
theorem beq_ne {x y : ByteArray} (h : x ≠ y) : (x.toList == y.toList) = false := by
  rw [beq_eq_false_iff_ne]
  intro e
  apply h
  rw [ByteArray.toList_eq, ByteArray.toList_eq] at e
  exact str_eq e
/-- Text, compared with bytes that there are. -/
theorem itext_cmp (k : Nat) (l s : Int) (b : List (Int × Int)) (t S : ByteArray) (n : Int) (B : Nat) (ao : Option Addr) (cap : Nat) (w : World) (hv : Rd2 w ao b) (hB : B = b.length) (h9 : 9 ≤ S.size) (hn0 : 0 ≤ n) (hn1 : n ≤ 65535) :
    Calls Try.prog 16 #[.agg #[.int .u8 k, .int .i64 l, .int .i64 s, .slice ao B cap, .string t], .int .i64 n] w fun e w' => Gr [] w w' ∧ ∃ X, e = .returned (.string X) ∧ ((X = S ∧ Right16 k l s b t ∧ S.data.toList = txtL k l s b t n) ∨ (X ≠ S ∧ ¬ (Right16 k l s b t ∧ S.data.toList = txtL k l s b t n))) := by
  by_cases h : Right16 k l s b t
  · obtain ⟨X, hX⟩ := mkS (txtL k l s b t n)
    refine (itext_yes k l s b t X n B ao cap w hv hB h hn0 hn1 hX).mono ?_
    rintro e w' ⟨rfl, g⟩
    refine ⟨g, X, rfl, ?_⟩
    by_cases hq : X = S
    · exact .inl ⟨hq, h, by rw [← hq]; exact hX⟩
    · exact .inr ⟨hq, fun q => hq (str_eq (by rw [hX, q.2]))⟩
  · refine (itext_no k l s b t n B ao cap w hv hB (fun q => h q.1)).mono ?_
    rintro e w' ⟨rfl, g⟩
    exact ⟨g, _, rfl, .inr ⟨fun q => (by rw [← q] at h9; exact absurd h9 (by decide)), fun q => h q.1⟩⟩
/-- What Parse answers: the inode of the bytes, or that there is none. -/
def PasI (s : ByteArray) (w : World) (e : Ending) (w' : World) : Prop :=
  Gr [] w w' ∧ ((∃ (k : Nat) (l z : Int) (b : List (Int × Int)) (t : ByteArray) (n : Int) (ao : Option Addr) (cap : Nat), e = .returned (.tuple #[.int .i64 n, .agg #[.int .u8 k, .int .i64 l, .int .i64 z, .slice ao b.length cap, .string t], .int .i64 0]) ∧ Sl2 w' (.slice ao b.length cap) b ∧ Right16 k l z b t ∧ 0 ≤ n ∧ n ≤ 65535 ∧ s.data.toList = txtL k l z b t n) ∨
    (e = .returned (.tuple #[.int .i64 0, .agg #[.int .u8 0, .int .i64 0, .int .i64 0, .slice none 0 0, .string ⟨#[]⟩], .int .i64 4]) ∧ ¬ ∃ (k : Nat) (l z : Int) (b : List (Int × Int)) (t : ByteArray) (n : Int), Right16 k l z b t ∧ 0 ≤ n ∧ n ≤ 65535 ∧ s.data.toList = txtL k l z b t n))
theorem iparse_short (s : ByteArray) (w : World) (h9 : s.size < 9) : Calls Try.prog 21 #[.string s] w (PasI s w) := by
  have HN := Lib.hid (show ¬ ∃ (k : Nat) (l z : Int) (b : List (Int × Int)) (t : ByteArray) (n : Int), Right16 k l z b t ∧ 0 ≤ n ∧ n ≤ 65535 ∧ s.data.toList = txtL k l z b t n by
    rintro ⟨k, l, z, b, t, n, _, _, _, h⟩
    have := (txt_parts h).2.2.2.2.2
    rw [← Lib.size_eq] at this
    omega)
  have HI := Lib.hid (Holds.new w #[.int .u8 0, .int .i64 0, .int .i64 0, .slice none 0 0, .string ⟨#[]⟩] 31)
  have HG := Lib.hid ((Gr.refl [] w).alloc (Obj.cells #[.int .u8 0, .int .i64 0, .int .i64 0, .slice none 0 0, .string ⟨#[]⟩] 31))
  have hi : (s.size : Int) < 9 := by omega
  go_enter Try.func21, Try.ntmps21
  go_wp2_with fail
  have r0 := HI.out.cell 0
  have r1 := HI.out.cell 1
  have r2 := HI.out.cell 2
  have r3 := HI.out.cell 3
  have r4 := HI.out.cell 4
  exact bodyPost_ret (v := .tuple #[.int .i64 0, .agg #[.int .u8 0, .int .i64 0, .int .i64 0, .slice none 0 0, .string ⟨#[]⟩], .int .i64 4]) (by simp [results, Try.results21, go_sem, *]) rfl ⟨HG.out, .inr ⟨rfl, HN.out⟩⟩


set_option maxHeartbeats 8000000 in
set_option maxRecDepth 100000 in
theorem iparse_file (s : ByteArray) (w : World) (h9 : 9 ≤ s.size) (hs : s.size ≤ maxLen) (h2 : 2 < s.size) (hk : s[2].toNat = 1) : Calls Try.prog 21 #[.string s] w (PasI s w) := by
  have e2 : (256 : Nat) ^ 2 = 65536 := by decide
  have e4 : (256 : Nat) ^ 4 = 4294967296 := by decide
  have gb : ∀ (i j : Nat), (s.extract i j).size ≤ j - i := fun i j => by rw [ByteArray.size_extract]; omega
  obtain ⟨n0, hn0⟩ : ∃ n, n = getL (s.extract 0 2).data.toList := ⟨_, rfl⟩
  obtain ⟨l0, hl0⟩ : ∃ n, n = getL (s.extract 3 5).data.toList := ⟨_, rfl⟩
  obtain ⟨z0, hz0⟩ : ∃ n, n = getL (s.extract 5 9).data.toList := ⟨_, rfl⟩
  have bn : n0 < 65536 := by
    have q := getL_lt (s.extract 0 2).data.toList
    have q2 : (256 : Nat) ^ (s.extract 0 2).data.toList.length ≤ 256 ^ 2 := Nat.pow_le_pow_right (by omega) (by rw [← Lib.size_eq]; exact gb 0 2)
    omega
  have bl : l0 < 65536 := by
    have q := getL_lt (s.extract 3 5).data.toList
    have q2 : (256 : Nat) ^ (s.extract 3 5).data.toList.length ≤ 256 ^ 2 := Nat.pow_le_pow_right (by omega) (by rw [← Lib.size_eq]; exact gb 3 5)
    omega
  have bz : z0 < 4294967296 := by
    have q := getL_lt (s.extract 5 9).data.toList
    have q2 : (256 : Nat) ^ (s.extract 5 9).data.toList.length ≤ 256 ^ 4 := Nat.pow_le_pow_right (by omega) (by rw [← Lib.size_eq]; exact gb 5 9)
    omega
  have G1 := Lib.hid (fun W => get4_any (s.extract 3 5) l0 W (by have := gb 3 5; omega) hl0.symm)
  have G2 := Lib.hid (fun W => get4_any (s.extract 5 9) z0 W (by have := gb 5 9; omega) hz0.symm)
  have G3 := Lib.hid (fun W => get4_any (s.extract 0 2) n0 W (by have := gb 0 2; omega) hn0.symm)
  have HX0 := Lib.hid (show ∀ (k' : Nat) (l z : Int) (b : List (Int × Int)) (t : ByteArray) (n : Int), Right16 k' l z b t → 0 ≤ n → n ≤ 65535 → s.data.toList = txtL k' l z b t n → k' = 1 ∧ l = (l0 : Int) ∧ z = (z0 : Int) ∧ n = (n0 : Int) ∧ s.data.toList.drop 9 = bytP b ++ t.data.toList from fun k' l z b t n hr h0 h1 hq => by
    obtain ⟨q1, q2, q3, q4⟩ := txt_nums hq hr h0 h1
    have q5 := (txt_parts hq).2.2.2.2.1
    have q6 := str_at s 2 h2
    obtain ⟨f1, -⟩ := r16_facts hr
    rw [q2] at q6
    have q7 := congrArg UInt8.toNat (Option.some.inj q6)
    rw [hk] at q7
    simp [Nat.mod_eq_of_lt (show k' < 256 by omega)] at q7
    rw [hn0, hl0, hz0, extr_list, extr_list, extr_list]
    exact ⟨q7, q3.symm, q4.symm, q1.symm, q5⟩)
  have i2 : (2 : Int) < (s.size : Int) := by omega
  have i9 : (9 : Int) ≤ (s.size : Int) := by omega
  have i5 : (5 : Int) ≤ (s.size : Int) := by omega
  have h5 : 5 ≤ s.size := by omega
  have h2b : 2 ≤ s.size := by omega
  have i2b : (2 : Int) ≤ (s.size : Int) := by omega
  have u0 : IntKind.i64.wrap (n0 : Int) = n0 := IntWalk.i64_in _ (by omega)
  have u1 : IntKind.i64.wrap (l0 : Int) = l0 := IntWalk.i64_in _ (by omega)
  have u2 : IntKind.i64.wrap (z0 : Int) = z0 := IntWalk.i64_in _ (by omega)
  obtain ⟨S9, hS9⟩ : ∃ X, X = s.extract 9 s.size := ⟨_, rfl⟩
  have HS9 := Lib.hid (show S9.data.toList = s.data.toList.drop 9 by rw [hS9, extr_list, List.take_of_length_le (by rw [List.length_drop, ← Lib.size_eq]; omega)])
  have HS9z := Lib.hid (show S9.size ≤ maxLen by rw [hS9, ByteArray.size_extract]; unfold maxLen at *; omega)
  have HR := Lib.hid (((Holds.new w #[.int .u8 0, .int .i64 0, .int .i64 0, .slice none 0 0, .string ⟨#[]⟩] 31).alloc (Obj.cells #[.int .u8 1, .int .i64 l0, .int .i64 z0, .slice none 0 0, .string ⟨#[]⟩] 31)).drew)
  have hx := (Holds.new (w.alloc (Obj.cells #[.int .u8 0, .int .i64 0, .int .i64 0, .slice none 0 0, .string ⟨#[]⟩] 31)) #[.int .u8 1, .int .i64 l0, .int .i64 z0, .slice none 0 0, .string ⟨#[]⟩] 31).drew
  rw [World.size_alloc] at hx
  have HX := Lib.hid hx
  have HG := Lib.hid ((((Gr.refl [] w).alloc (Obj.cells #[.int .u8 0, .int .i64 0, .int .i64 0, .slice none 0 0, .string ⟨#[]⟩] 31)).alloc (Obj.cells #[.int .u8 1, .int .i64 l0, .int .i64 z0, .slice none 0 0, .string ⟨#[]⟩] 31)).drew)
  have HB := Lib.hid (show w.heap.size + 2 ≤ (((w.alloc (Obj.cells #[.int .u8 0, .int .i64 0, .int .i64 0, .slice none 0 0, .string ⟨#[]⟩] 31)).alloc (Obj.cells #[.int .u8 1, .int .i64 l0, .int .i64 z0, .slice none 0 0, .string ⟨#[]⟩] 31)).drew).heap.size by
    show _ ≤ ((w.alloc _).alloc _).heap.size
    rw [World.size_alloc, World.size_alloc]; omega)
  clear hx hn0 hl0 hz0 e2 e4 gb
  go_enter Try.func21, Try.ntmps21
  go_wp2_with fail
  go_cut [5] (fun p wx => p = .pointer (some ⟨w.heap.size + 1, 0, none⟩) ∧ wx = ((w.alloc (Obj.cells #[.int .u8 0, .int .i64 0, .int .i64 0, .slice none 0 0, .string ⟨#[]⟩] 31)).alloc (Obj.cells #[.int .u8 1, .int .i64 l0, .int .i64 z0, .slice none 0 0, .string ⟨#[]⟩] 31)).drew)
  case first =>
    as_aux_lemma =>
      go_region_held3 (fun _ : World => True) (trivial) ((first
        | (go_at_call 41; (with_reducible refine (G1.out _).mono ?_); rintro r w10 ⟨rfl, rfl⟩)
        | (go_at_call 41; (with_reducible refine (G2.out _).mono ?_); rintro r w10 ⟨rfl, rfl⟩)))
      all_goals
        go_wp2_with fail
        skip
        go_meet
        exact ⟨rfl, rfl⟩
  case rest =>
    obtain ⟨rfl, rfl⟩ := hcut
    generalize ((w.alloc (Obj.cells #[.int .u8 0, .int .i64 0, .int .i64 0, .slice none 0 0, .string ⟨#[]⟩] 31)).alloc (Obj.cells #[.int .u8 1, .int .i64 l0, .int .i64 z0, .slice none 0 0, .string ⟨#[]⟩] 31)).drew = wz at *
    have x0 := HX.out.cell 0
    have x3 := HX.out.cell 3
    have x4 := HX.out.cell 4
    have y3 := HX.out.frozen 3
    have y4 := HX.out.frozen 4
    go_wp2_with fail
    clear x0 x3 x4 y3 y4
    rw [← hS9]
    clear hS9
    have HPX := Lib.hid (eparse_anyO S9 wz HS9z.out)
    with_reducible refine HPX.out.mono ?_
    rintro e w2 ⟨g2, hP⟩
    have HX2 := Lib.hid (HX.out.gr0 g2)
    have HR2 := Lib.hid (HR.out.gr0 g2)
    have HG2 := Lib.hid (HG.out.next0 g2)
    have HB2 := Lib.hid (Nat.le_trans HB.out g2.size)
    clear g2 HPX HX HR HG
    rcases hP with ⟨b, ao, cap, rfl, sb, ob, hr15, hb⟩ | ⟨hno, rfl⟩
    · have x0 := HX2.out.cell 0
      have x3 := HX2.out.cell 3
      have y3 := HX2.out.frozen 3
      have HSB := Lib.hid (And.intro sb (And.intro ob (And.intro hr15 hb)))
      clear sb ob hr15 hb
      go_wp2_with fail
      with_reducible refine (G3.out _).mono ?_
      rintro e w3 ⟨rfl, rfl⟩
      have HX4 := Lib.hid (show Holds (w2.setCell ⟨w.heap.size + 1, 3, none⟩ (.slice ao b.length cap)) (w.heap.size + 1) #[.int .u8 1, .int .i64 l0, .int .i64 z0, .slice ao b.length cap, .string ⟨#[]⟩] 31 from HX2.out.set 3 _)
      have HR4 := Lib.hid (HR2.out.far (a := ⟨w.heap.size + 1, 3, none⟩) (by simp) (.slice ao b.length cap))
      have HG4 := Lib.hid (HG2.out.setCell (p := ⟨w.heap.size + 1, 3, none⟩) (.inr (by simp)) (.slice ao b.length cap))
      have sb4 := Lib.hid (And.intro (HSB.out.1.gr ((Gr.refl [w.heap.size + 1] w2).setCell (p := ⟨w.heap.size + 1, 3, none⟩) (.inl (by simp)) (.slice ao b.length cap)) (fun x hx => by have := HSB.out.2.1 x hx; have := HB.out; simp; omega)) (show ∀ x, (Value.slice ao b.length cap).ownBlock = some x → w.heap.size < x from fun x hx => by have := HSB.out.2.1 x hx; have := HB.out; omega))
      clear x0 x3 y3 HX2 HR2 HG2
      generalize w2.setCell ⟨w.heap.size + 1, 3, none⟩ (.slice ao b.length cap) = w4 at *
      have x0 := HX4.out.cell 0
      have x1 := HX4.out.cell 1
      have x2 := HX4.out.cell 2
      have x3 := HX4.out.cell 3
      have x4 := HX4.out.cell 4
      go_wp2_with fail
      refine (itext_cmp 1 l0 z0 b ⟨#[]⟩ s n0 b.length ao cap w4 (sl2_parts sb4.out.1).2.1 (sl2_parts sb4.out.1).1 h9 (by omega) (by omega)).mono ?_
      rintro e w5 ⟨g5, X, rfl, hXX⟩
      have HX5 := Lib.hid (HX4.out.gr0 g5)
      have HR5 := Lib.hid (HR4.out.gr0 g5)
      have HG5 := Lib.hid (HG4.out.next0 g5)
      have sb5 := Lib.hid (And.intro (sb4.out.1.gr0 g5) sb4.out.2)
      clear g5 x0 x1 x2 x3 x4 HX4 HR4 HG4 sb4
      rcases hXX with ⟨hX, hR, hq⟩ | ⟨hne, hno⟩
      · obtain rfl := hX.symm
        have HRQ := Lib.hid (And.intro hR hq)
        clear hR hq hX
        have x0 := HX5.out.cell 0
        have x1 := HX5.out.cell 1
        have x2 := HX5.out.cell 2
        have x3 := HX5.out.cell 3
        have x4 := HX5.out.cell 4
        have r0 := HR5.out.cell 0
        have r1 := HR5.out.cell 1
        have r2 := HR5.out.cell 2
        have r3 := HR5.out.cell 3
        have r4 := HR5.out.cell 4
        have f0 := HR5.out.frozen 0
        have f1 := HR5.out.frozen 1
        have f2 := HR5.out.frozen 2
        have f3 := HR5.out.frozen 3
        have f4 := HR5.out.frozen 4
        go_wp2_with fail
        go_region
        all_goals
          go_wp2_with fail
          refine bodyPost_ret (v := .tuple #[.int .i64 n0, .agg #[(.int .u8 1), (.int .i64 l0), (.int .i64 z0), (.slice ao b.length cap), (.string ⟨#[]⟩)], .int .i64 0]) (by simp [results, Try.results21, go_sem, *]) rfl ⟨?_, .inl ⟨1, l0, z0, b, ⟨#[]⟩, n0, ao, cap, rfl, ?_, HRQ.out.1, by omega, by omega, HRQ.out.2⟩⟩
          · exact (((((HG5.out.setCell (p := ⟨w.heap.size, 0, none⟩) (.inr (Nat.le_refl _)) _).setCell (p := ⟨w.heap.size, 1, none⟩) (.inr (Nat.le_refl _)) _).setCell (p := ⟨w.heap.size, 2, none⟩) (.inr (Nat.le_refl _)) _).setCell (p := ⟨w.heap.size, 3, none⟩) (.inr (Nat.le_refl _)) _).setCell (p := ⟨w.heap.size, 4, none⟩) (.inr (Nat.le_refl _)) _).drew
          · exact sb5.out.1.gr ((((((Gr.refl [w.heap.size] w5).setCell (p := ⟨w.heap.size, 0, none⟩) (.inl (by simp)) _).setCell (p := ⟨w.heap.size, 1, none⟩) (.inl (by simp)) _).setCell (p := ⟨w.heap.size, 2, none⟩) (.inl (by simp)) _).setCell (p := ⟨w.heap.size, 3, none⟩) (.inl (by simp)) _).setCell (p := ⟨w.heap.size, 4, none⟩) (.inl (by simp)) _).drew (fun x hx => by have := sb5.out.2 x hx; simp; omega)
      · have hqe := beq_ne hne
        have HNO := Lib.hid (show ¬ ∃ (k : Nat) (l z : Int) (b : List (Int × Int)) (t : ByteArray) (n : Int), Right16 k l z b t ∧ 0 ≤ n ∧ n ≤ 65535 ∧ s.data.toList = txtL k l z b t n by
          rintro ⟨k', l', z', b', t', n', hr', q0, q1, hq'⟩
          obtain ⟨rfl, rfl, rfl, rfl, q5⟩ := HX0.out k' l' z' b' t' n' hr' q0 q1 hq'
          have ht' := bs_nil (show t'.size = 0 by have := hr'.2.2; omega)
          subst ht'
          obtain rfl : b' = b := bytP_inj (r16_facts hr').2.2.2.2.2.2 HSB.out.2.2.1 (by rw [← HSB.out.2.2.2, HS9.out, q5]; simp)
          exact hno ⟨hr', hq'⟩)
        clear hne hno
        have r0 := HR5.out.cell 0
        have r1 := HR5.out.cell 1
        have r2 := HR5.out.cell 2
        have r3 := HR5.out.cell 3
        have r4 := HR5.out.cell 4
        have f0 := HR5.out.frozen 0
        have f1 := HR5.out.frozen 1
        have f2 := HR5.out.frozen 2
        have f3 := HR5.out.frozen 3
        have f4 := HR5.out.frozen 4
        go_wp2_with fail
        refine bodyPost_ret (v := .tuple #[.int .i64 0, .agg #[.int .u8 0, .int .i64 0, .int .i64 0, .slice none 0 0, .string ⟨#[]⟩], .int .i64 4]) (by simp [results, Try.results21, go_sem, *]) rfl ⟨?_, .inr ⟨rfl, HNO.out⟩⟩
        exact ((((HG5.out.setCell (p := ⟨w.heap.size, 0, none⟩) (.inr (Nat.le_refl _)) _).setCell (p := ⟨w.heap.size, 1, none⟩) (.inr (Nat.le_refl _)) _).setCell (p := ⟨w.heap.size, 2, none⟩) (.inr (Nat.le_refl _)) _).setCell (p := ⟨w.heap.size, 3, none⟩) (.inr (Nat.le_refl _)) _).setCell (p := ⟨w.heap.size, 4, none⟩) (.inr (Nat.le_refl _)) _
    · have HNO := Lib.hid (show ¬ ∃ (k : Nat) (l z : Int) (b : List (Int × Int)) (t : ByteArray) (n : Int), Right16 k l z b t ∧ 0 ≤ n ∧ n ≤ 65535 ∧ s.data.toList = txtL k l z b t n by
        rintro ⟨k', l', z', b', t', n', hr', q0, q1, hq'⟩
        obtain ⟨rfl, rfl, rfl, rfl, q5⟩ := HX0.out k' l' z' b' t' n' hr' q0 q1 hq'
        have ht' := bs_nil (show t'.size = 0 by have := hr'.2.2; omega)
        subst ht'
        exact hno ⟨b', (r16_facts hr').2.2.2.2.2.2, by rw [HS9.out, q5]; simp⟩)
      clear hno HX2
      have r0 := HR2.out.cell 0
      have r1 := HR2.out.cell 1
      have r2 := HR2.out.cell 2
      have r3 := HR2.out.cell 3
      have r4 := HR2.out.cell 4
      have f0 := HR2.out.frozen 0
      have f1 := HR2.out.frozen 1
      have f2 := HR2.out.frozen 2
      have f3 := HR2.out.frozen 3
      have f4 := HR2.out.frozen 4
      go_wp2_with fail
      refine bodyPost_ret (v := .tuple #[.int .i64 0, .agg #[.int .u8 0, .int .i64 0, .int .i64 0, .slice none 0 0, .string ⟨#[]⟩], .int .i64 4]) (by simp [results, Try.results21, go_sem, *]) rfl ⟨?_, .inr ⟨rfl, HNO.out⟩⟩
      exact ((((HG2.out.setCell (p := ⟨w.heap.size, 0, none⟩) (.inr (Nat.le_refl _)) _).setCell (p := ⟨w.heap.size, 1, none⟩) (.inr (Nat.le_refl _)) _).setCell (p := ⟨w.heap.size, 2, none⟩) (.inr (Nat.le_refl _)) _).setCell (p := ⟨w.heap.size, 3, none⟩) (.inr (Nat.le_refl _)) _).setCell (p := ⟨w.heap.size, 4, none⟩) (.inr (Nat.le_refl _)) _


set_option maxHeartbeats 8000000 in
set_option maxRecDepth 100000 in
theorem iparse_link (s : ByteArray) (w : World) (h9 : 9 ≤ s.size) (hs : s.size ≤ maxLen) (h2 : 2 < s.size) (hk : s[2].toNat = 3) : Calls Try.prog 21 #[.string s] w (PasI s w) := by
  have e2 : (256 : Nat) ^ 2 = 65536 := by decide
  have e4 : (256 : Nat) ^ 4 = 4294967296 := by decide
  have gb : ∀ (i j : Nat), (s.extract i j).size ≤ j - i := fun i j => by rw [ByteArray.size_extract]; omega
  obtain ⟨n0, hn0⟩ : ∃ n, n = getL (s.extract 0 2).data.toList := ⟨_, rfl⟩
  obtain ⟨l0, hl0⟩ : ∃ n, n = getL (s.extract 3 5).data.toList := ⟨_, rfl⟩
  obtain ⟨z0, hz0⟩ : ∃ n, n = getL (s.extract 5 9).data.toList := ⟨_, rfl⟩
  have bn : n0 < 65536 := by
    have q := getL_lt (s.extract 0 2).data.toList
    have q2 : (256 : Nat) ^ (s.extract 0 2).data.toList.length ≤ 256 ^ 2 := Nat.pow_le_pow_right (by omega) (by rw [← Lib.size_eq]; exact gb 0 2)
    omega
  have bl : l0 < 65536 := by
    have q := getL_lt (s.extract 3 5).data.toList
    have q2 : (256 : Nat) ^ (s.extract 3 5).data.toList.length ≤ 256 ^ 2 := Nat.pow_le_pow_right (by omega) (by rw [← Lib.size_eq]; exact gb 3 5)
    omega
  have bz : z0 < 4294967296 := by
    have q := getL_lt (s.extract 5 9).data.toList
    have q2 : (256 : Nat) ^ (s.extract 5 9).data.toList.length ≤ 256 ^ 4 := Nat.pow_le_pow_right (by omega) (by rw [← Lib.size_eq]; exact gb 5 9)
    omega
  have G1 := Lib.hid (fun W => get4_any (s.extract 3 5) l0 W (by have := gb 3 5; omega) hl0.symm)
  have G2 := Lib.hid (fun W => get4_any (s.extract 5 9) z0 W (by have := gb 5 9; omega) hz0.symm)
  have G3 := Lib.hid (fun W => get4_any (s.extract 0 2) n0 W (by have := gb 0 2; omega) hn0.symm)
  have HX0 := Lib.hid (show ∀ (k' : Nat) (l z : Int) (b : List (Int × Int)) (t : ByteArray) (n : Int), Right16 k' l z b t → 0 ≤ n → n ≤ 65535 → s.data.toList = txtL k' l z b t n → k' = 3 ∧ l = (l0 : Int) ∧ z = (z0 : Int) ∧ n = (n0 : Int) ∧ s.data.toList.drop 9 = bytP b ++ t.data.toList from fun k' l z b t n hr h0 h1 hq => by
    obtain ⟨q1, q2, q3, q4⟩ := txt_nums hq hr h0 h1
    have q5 := (txt_parts hq).2.2.2.2.1
    have q6 := str_at s 2 h2
    obtain ⟨f1, -⟩ := r16_facts hr
    rw [q2] at q6
    have q7 := congrArg UInt8.toNat (Option.some.inj q6)
    rw [hk] at q7
    simp [Nat.mod_eq_of_lt (show k' < 256 by omega)] at q7
    rw [hn0, hl0, hz0, extr_list, extr_list, extr_list]
    exact ⟨q7, q3.symm, q4.symm, q1.symm, q5⟩)
  have i2 : (2 : Int) < (s.size : Int) := by omega
  have i9 : (9 : Int) ≤ (s.size : Int) := by omega
  have i5 : (5 : Int) ≤ (s.size : Int) := by omega
  have h5 : 5 ≤ s.size := by omega
  have h2b : 2 ≤ s.size := by omega
  have i2b : (2 : Int) ≤ (s.size : Int) := by omega
  have u0 : IntKind.i64.wrap (n0 : Int) = n0 := IntWalk.i64_in _ (by omega)
  have u1 : IntKind.i64.wrap (l0 : Int) = l0 := IntWalk.i64_in _ (by omega)
  have u2 : IntKind.i64.wrap (z0 : Int) = z0 := IntWalk.i64_in _ (by omega)
  obtain ⟨S9, hS9⟩ : ∃ X, X = s.extract 9 s.size := ⟨_, rfl⟩
  have HS9 := Lib.hid (show S9.data.toList = s.data.toList.drop 9 by rw [hS9, extr_list, List.take_of_length_le (by rw [List.length_drop, ← Lib.size_eq]; omega)])
  have HS9z := Lib.hid (show S9.size ≤ maxLen by rw [hS9, ByteArray.size_extract]; unfold maxLen at *; omega)
  have HR := Lib.hid (((Holds.new w #[.int .u8 0, .int .i64 0, .int .i64 0, .slice none 0 0, .string ⟨#[]⟩] 31).alloc (Obj.cells #[.int .u8 3, .int .i64 l0, .int .i64 z0, .slice none 0 0, .string ⟨#[]⟩] 31)).drew)
  have hx := (Holds.new (w.alloc (Obj.cells #[.int .u8 0, .int .i64 0, .int .i64 0, .slice none 0 0, .string ⟨#[]⟩] 31)) #[.int .u8 3, .int .i64 l0, .int .i64 z0, .slice none 0 0, .string ⟨#[]⟩] 31).drew
  rw [World.size_alloc] at hx
  have HX := Lib.hid hx
  have HG := Lib.hid ((((Gr.refl [] w).alloc (Obj.cells #[.int .u8 0, .int .i64 0, .int .i64 0, .slice none 0 0, .string ⟨#[]⟩] 31)).alloc (Obj.cells #[.int .u8 3, .int .i64 l0, .int .i64 z0, .slice none 0 0, .string ⟨#[]⟩] 31)).drew)
  have HB := Lib.hid (show w.heap.size + 2 ≤ (((w.alloc (Obj.cells #[.int .u8 0, .int .i64 0, .int .i64 0, .slice none 0 0, .string ⟨#[]⟩] 31)).alloc (Obj.cells #[.int .u8 3, .int .i64 l0, .int .i64 z0, .slice none 0 0, .string ⟨#[]⟩] 31)).drew).heap.size by
    show _ ≤ ((w.alloc _).alloc _).heap.size
    rw [World.size_alloc, World.size_alloc]; omega)
  clear hx hn0 hl0 hz0 e2 e4 gb
  go_enter Try.func21, Try.ntmps21
  go_wp2_with fail
  go_cut [5] (fun p wx => p = .pointer (some ⟨w.heap.size + 1, 0, none⟩) ∧ wx = ((w.alloc (Obj.cells #[.int .u8 0, .int .i64 0, .int .i64 0, .slice none 0 0, .string ⟨#[]⟩] 31)).alloc (Obj.cells #[.int .u8 3, .int .i64 l0, .int .i64 z0, .slice none 0 0, .string ⟨#[]⟩] 31)).drew)
  case first =>
    as_aux_lemma =>
      go_region_held3 (fun _ : World => True) (trivial) ((first
        | (go_at_call 41; (with_reducible refine (G1.out _).mono ?_); rintro r w10 ⟨rfl, rfl⟩)
        | (go_at_call 41; (with_reducible refine (G2.out _).mono ?_); rintro r w10 ⟨rfl, rfl⟩)))
      all_goals
        go_wp2_with fail
        skip
        go_meet
        exact ⟨rfl, rfl⟩
  case rest =>
    obtain ⟨rfl, rfl⟩ := hcut
    generalize ((w.alloc (Obj.cells #[.int .u8 0, .int .i64 0, .int .i64 0, .slice none 0 0, .string ⟨#[]⟩] 31)).alloc (Obj.cells #[.int .u8 3, .int .i64 l0, .int .i64 z0, .slice none 0 0, .string ⟨#[]⟩] 31)).drew = wz at *
    have x0 := HX.out.cell 0
    have x3 := HX.out.cell 3
    have x4 := HX.out.cell 4
    have y3 := HX.out.frozen 3
    have y4 := HX.out.frozen 4
    go_wp2_with fail
    clear x0 x3 x4 y3 y4
    rw [← hS9]
    clear hS9
    with_reducible refine (G3.out _).mono ?_
    rintro e w3 ⟨rfl, rfl⟩
    have HX4 := Lib.hid (show Holds (wz.setCell ⟨w.heap.size + 1, 4, none⟩ (.string S9)) (w.heap.size + 1) #[.int .u8 3, .int .i64 l0, .int .i64 z0, .slice none 0 0, .string S9] 31 from HX.out.set 4 _)
    have HR4 := Lib.hid (HR.out.far (a := ⟨w.heap.size + 1, 4, none⟩) (by simp) (.string S9))
    have HG4 := Lib.hid (HG.out.setCell (p := ⟨w.heap.size + 1, 4, none⟩) (.inr (by simp)) (.string S9))
    clear HX HR HG
    generalize wz.setCell ⟨w.heap.size + 1, 4, none⟩ (.string S9) = w4 at *
    have sb4 := Lib.hid (And.intro (sl2_nil0 w4) (show ∀ x, (Value.slice none 0 0).ownBlock = some x → w.heap.size < x from fun x hx => by cases hx))

    have x0 := HX4.out.cell 0
    have x1 := HX4.out.cell 1
    have x2 := HX4.out.cell 2
    have x3 := HX4.out.cell 3
    have x4 := HX4.out.cell 4
    go_wp2_with fail
    refine (itext_cmp 3 l0 z0 [] S9 s n0 0 none 0 w4 (sl2_parts sb4.out.1).2.1 (sl2_parts sb4.out.1).1 h9 (by omega) (by omega)).mono ?_
    rintro e w5 ⟨g5, X, rfl, hXX⟩
    have HX5 := Lib.hid (HX4.out.gr0 g5)
    have HR5 := Lib.hid (HR4.out.gr0 g5)
    have HG5 := Lib.hid (HG4.out.next0 g5)
    have sb5 := Lib.hid (And.intro (sb4.out.1.gr0 g5) sb4.out.2)
    clear g5 x0 x1 x2 x3 x4 HX4 HR4 HG4 sb4
    rcases hXX with ⟨hX, hR, hq⟩ | ⟨hne, hno⟩
    · obtain rfl := hX.symm
      have HRQ := Lib.hid (And.intro hR hq)
      clear hR hq hX
      have x0 := HX5.out.cell 0
      have x1 := HX5.out.cell 1
      have x2 := HX5.out.cell 2
      have x3 := HX5.out.cell 3
      have x4 := HX5.out.cell 4
      have r0 := HR5.out.cell 0
      have r1 := HR5.out.cell 1
      have r2 := HR5.out.cell 2
      have r3 := HR5.out.cell 3
      have r4 := HR5.out.cell 4
      have f0 := HR5.out.frozen 0
      have f1 := HR5.out.frozen 1
      have f2 := HR5.out.frozen 2
      have f3 := HR5.out.frozen 3
      have f4 := HR5.out.frozen 4
      go_wp2_with fail
      go_region
      all_goals
        go_wp2_with fail
        refine bodyPost_ret (v := .tuple #[.int .i64 n0, .agg #[(.int .u8 3), (.int .i64 l0), (.int .i64 z0), (.slice none 0 0), (.string S9)], .int .i64 0]) (by simp [results, Try.results21, go_sem, *]) rfl ⟨?_, .inl ⟨3, l0, z0, [], S9, n0, none, 0, rfl, ?_, HRQ.out.1, by omega, by omega, HRQ.out.2⟩⟩
        · exact (((((HG5.out.setCell (p := ⟨w.heap.size, 0, none⟩) (.inr (Nat.le_refl _)) _).setCell (p := ⟨w.heap.size, 1, none⟩) (.inr (Nat.le_refl _)) _).setCell (p := ⟨w.heap.size, 2, none⟩) (.inr (Nat.le_refl _)) _).setCell (p := ⟨w.heap.size, 3, none⟩) (.inr (Nat.le_refl _)) _).setCell (p := ⟨w.heap.size, 4, none⟩) (.inr (Nat.le_refl _)) _).drew
        · exact sb5.out.1.gr ((((((Gr.refl [w.heap.size] w5).setCell (p := ⟨w.heap.size, 0, none⟩) (.inl (by simp)) _).setCell (p := ⟨w.heap.size, 1, none⟩) (.inl (by simp)) _).setCell (p := ⟨w.heap.size, 2, none⟩) (.inl (by simp)) _).setCell (p := ⟨w.heap.size, 3, none⟩) (.inl (by simp)) _).setCell (p := ⟨w.heap.size, 4, none⟩) (.inl (by simp)) _).drew (fun x hx => by have := sb5.out.2 x hx; simp; omega)
    · have hqe := beq_ne hne
      have HNO := Lib.hid (show ¬ ∃ (k : Nat) (l z : Int) (b : List (Int × Int)) (t : ByteArray) (n : Int), Right16 k l z b t ∧ 0 ≤ n ∧ n ≤ 65535 ∧ s.data.toList = txtL k l z b t n by
        rintro ⟨k', l', z', b', t', n', hr', q0, q1, hq'⟩
        obtain ⟨rfl, rfl, rfl, rfl, q5⟩ := HX0.out k' l' z' b' t' n' hr' q0 q1 hq'
        have hb' := List.length_eq_zero_iff.1 (show b'.length = 0 by have := hr'.2.2; omega)
        subst hb'
        obtain rfl : t' = S9 := str_eq (by rw [HS9.out, q5]; simp [bytP])
        exact hno ⟨hr', hq'⟩)
      clear hne hno
      have r0 := HR5.out.cell 0
      have r1 := HR5.out.cell 1
      have r2 := HR5.out.cell 2
      have r3 := HR5.out.cell 3
      have r4 := HR5.out.cell 4
      have f0 := HR5.out.frozen 0
      have f1 := HR5.out.frozen 1
      have f2 := HR5.out.frozen 2
      have f3 := HR5.out.frozen 3
      have f4 := HR5.out.frozen 4
      go_wp2_with fail
      refine bodyPost_ret (v := .tuple #[.int .i64 0, .agg #[.int .u8 0, .int .i64 0, .int .i64 0, .slice none 0 0, .string ⟨#[]⟩], .int .i64 4]) (by simp [results, Try.results21, go_sem, *]) rfl ⟨?_, .inr ⟨rfl, HNO.out⟩⟩
      exact ((((HG5.out.setCell (p := ⟨w.heap.size, 0, none⟩) (.inr (Nat.le_refl _)) _).setCell (p := ⟨w.heap.size, 1, none⟩) (.inr (Nat.le_refl _)) _).setCell (p := ⟨w.heap.size, 2, none⟩) (.inr (Nat.le_refl _)) _).setCell (p := ⟨w.heap.size, 3, none⟩) (.inr (Nat.le_refl _)) _).setCell (p := ⟨w.heap.size, 4, none⟩) (.inr (Nat.le_refl _)) _


set_option maxHeartbeats 8000000 in
set_option maxRecDepth 100000 in
theorem iparse_else (s : ByteArray) (k : Nat) (w : World) (h9 : 9 ≤ s.size) (hs : s.size ≤ maxLen) (h2 : 2 < s.size) (hk : s[2].toNat = k) (hk1 : (k : Int) ≠ 1) (hk3 : (k : Int) ≠ 3) : Calls Try.prog 21 #[.string s] w (PasI s w) := by
  have e2 : (256 : Nat) ^ 2 = 65536 := by decide
  have e4 : (256 : Nat) ^ 4 = 4294967296 := by decide
  have gb : ∀ (i j : Nat), (s.extract i j).size ≤ j - i := fun i j => by rw [ByteArray.size_extract]; omega
  obtain ⟨n0, hn0⟩ : ∃ n, n = getL (s.extract 0 2).data.toList := ⟨_, rfl⟩
  obtain ⟨l0, hl0⟩ : ∃ n, n = getL (s.extract 3 5).data.toList := ⟨_, rfl⟩
  obtain ⟨z0, hz0⟩ : ∃ n, n = getL (s.extract 5 9).data.toList := ⟨_, rfl⟩
  have bn : n0 < 65536 := by
    have q := getL_lt (s.extract 0 2).data.toList
    have q2 : (256 : Nat) ^ (s.extract 0 2).data.toList.length ≤ 256 ^ 2 := Nat.pow_le_pow_right (by omega) (by rw [← Lib.size_eq]; exact gb 0 2)
    omega
  have bl : l0 < 65536 := by
    have q := getL_lt (s.extract 3 5).data.toList
    have q2 : (256 : Nat) ^ (s.extract 3 5).data.toList.length ≤ 256 ^ 2 := Nat.pow_le_pow_right (by omega) (by rw [← Lib.size_eq]; exact gb 3 5)
    omega
  have bz : z0 < 4294967296 := by
    have q := getL_lt (s.extract 5 9).data.toList
    have q2 : (256 : Nat) ^ (s.extract 5 9).data.toList.length ≤ 256 ^ 4 := Nat.pow_le_pow_right (by omega) (by rw [← Lib.size_eq]; exact gb 5 9)
    omega
  have G1 := Lib.hid (fun W => get4_any (s.extract 3 5) l0 W (by have := gb 3 5; omega) hl0.symm)
  have G2 := Lib.hid (fun W => get4_any (s.extract 5 9) z0 W (by have := gb 5 9; omega) hz0.symm)
  have G3 := Lib.hid (fun W => get4_any (s.extract 0 2) n0 W (by have := gb 0 2; omega) hn0.symm)
  have HX0 := Lib.hid (show ∀ (k' : Nat) (l z : Int) (b : List (Int × Int)) (t : ByteArray) (n : Int), Right16 k' l z b t → 0 ≤ n → n ≤ 65535 → s.data.toList = txtL k' l z b t n → k' = k ∧ l = (l0 : Int) ∧ z = (z0 : Int) ∧ n = (n0 : Int) ∧ s.data.toList.drop 9 = bytP b ++ t.data.toList from fun k' l z b t n hr h0 h1 hq => by
    obtain ⟨q1, q2, q3, q4⟩ := txt_nums hq hr h0 h1
    have q5 := (txt_parts hq).2.2.2.2.1
    have q6 := str_at s 2 h2
    obtain ⟨f1, -⟩ := r16_facts hr
    rw [q2] at q6
    have q7 := congrArg UInt8.toNat (Option.some.inj q6)
    rw [hk] at q7
    simp [Nat.mod_eq_of_lt (show k' < 256 by omega)] at q7
    rw [hn0, hl0, hz0, extr_list, extr_list, extr_list]
    exact ⟨q7, q3.symm, q4.symm, q1.symm, q5⟩)
  have i2 : (2 : Int) < (s.size : Int) := by omega
  have i9 : (9 : Int) ≤ (s.size : Int) := by omega
  have i5 : (5 : Int) ≤ (s.size : Int) := by omega
  have h5 : 5 ≤ s.size := by omega
  have h2b : 2 ≤ s.size := by omega
  have i2b : (2 : Int) ≤ (s.size : Int) := by omega
  have u0 : IntKind.i64.wrap (n0 : Int) = n0 := IntWalk.i64_in _ (by omega)
  have u1 : IntKind.i64.wrap (l0 : Int) = l0 := IntWalk.i64_in _ (by omega)
  have u2 : IntKind.i64.wrap (z0 : Int) = z0 := IntWalk.i64_in _ (by omega)
  obtain ⟨S9, hS9⟩ : ∃ X, X = s.extract 9 s.size := ⟨_, rfl⟩
  have HS9 := Lib.hid (show S9.data.toList = s.data.toList.drop 9 by rw [hS9, extr_list, List.take_of_length_le (by rw [List.length_drop, ← Lib.size_eq]; omega)])
  have HS9z := Lib.hid (show S9.size ≤ maxLen by rw [hS9, ByteArray.size_extract]; unfold maxLen at *; omega)
  have HR := Lib.hid (((Holds.new w #[.int .u8 0, .int .i64 0, .int .i64 0, .slice none 0 0, .string ⟨#[]⟩] 31).alloc (Obj.cells #[.int .u8 k, .int .i64 l0, .int .i64 z0, .slice none 0 0, .string ⟨#[]⟩] 31)).drew)
  have hx := (Holds.new (w.alloc (Obj.cells #[.int .u8 0, .int .i64 0, .int .i64 0, .slice none 0 0, .string ⟨#[]⟩] 31)) #[.int .u8 k, .int .i64 l0, .int .i64 z0, .slice none 0 0, .string ⟨#[]⟩] 31).drew
  rw [World.size_alloc] at hx
  have HX := Lib.hid hx
  have HG := Lib.hid ((((Gr.refl [] w).alloc (Obj.cells #[.int .u8 0, .int .i64 0, .int .i64 0, .slice none 0 0, .string ⟨#[]⟩] 31)).alloc (Obj.cells #[.int .u8 k, .int .i64 l0, .int .i64 z0, .slice none 0 0, .string ⟨#[]⟩] 31)).drew)
  have HB := Lib.hid (show w.heap.size + 2 ≤ (((w.alloc (Obj.cells #[.int .u8 0, .int .i64 0, .int .i64 0, .slice none 0 0, .string ⟨#[]⟩] 31)).alloc (Obj.cells #[.int .u8 k, .int .i64 l0, .int .i64 z0, .slice none 0 0, .string ⟨#[]⟩] 31)).drew).heap.size by
    show _ ≤ ((w.alloc _).alloc _).heap.size
    rw [World.size_alloc, World.size_alloc]; omega)
  clear hx hn0 hl0 hz0 e2 e4 gb
  go_enter Try.func21, Try.ntmps21
  go_wp2_with fail
  go_cut [5] (fun p wx => p = .pointer (some ⟨w.heap.size + 1, 0, none⟩) ∧ wx = ((w.alloc (Obj.cells #[.int .u8 0, .int .i64 0, .int .i64 0, .slice none 0 0, .string ⟨#[]⟩] 31)).alloc (Obj.cells #[.int .u8 k, .int .i64 l0, .int .i64 z0, .slice none 0 0, .string ⟨#[]⟩] 31)).drew)
  case first =>
    as_aux_lemma =>
      go_region_held3 (fun _ : World => True) (trivial) ((first
        | (go_at_call 41; (with_reducible refine (G1.out _).mono ?_); rintro r w10 ⟨rfl, rfl⟩)
        | (go_at_call 41; (with_reducible refine (G2.out _).mono ?_); rintro r w10 ⟨rfl, rfl⟩)))
      all_goals
        go_wp2_with fail
        skip
        go_meet
        exact ⟨rfl, rfl⟩
  case rest =>
    obtain ⟨rfl, rfl⟩ := hcut
    generalize ((w.alloc (Obj.cells #[.int .u8 0, .int .i64 0, .int .i64 0, .slice none 0 0, .string ⟨#[]⟩] 31)).alloc (Obj.cells #[.int .u8 k, .int .i64 l0, .int .i64 z0, .slice none 0 0, .string ⟨#[]⟩] 31)).drew = wz at *
    have x0 := HX.out.cell 0
    have x3 := HX.out.cell 3
    have x4 := HX.out.cell 4
    have y3 := HX.out.frozen 3
    have y4 := HX.out.frozen 4
    go_wp2_with fail
    clear x0 x3 x4 y3 y4
    clear hS9
    with_reducible refine (G3.out _).mono ?_
    rintro e w3 ⟨rfl, rfl⟩
    have HX4 := Lib.hid HX.out
    have HR4 := Lib.hid HR.out
    have HG4 := Lib.hid HG.out
    clear HX HR HG
    have sb4 := Lib.hid (And.intro (sl2_nil0 w3) (show ∀ x, (Value.slice none 0 0).ownBlock = some x → w.heap.size < x from fun x hx => by cases hx))

    have x0 := HX4.out.cell 0
    have x1 := HX4.out.cell 1
    have x2 := HX4.out.cell 2
    have x3 := HX4.out.cell 3
    have x4 := HX4.out.cell 4
    go_wp2_with fail
    refine (itext_cmp k l0 z0 [] ⟨#[]⟩ s n0 0 none 0 w3 (sl2_parts sb4.out.1).2.1 (sl2_parts sb4.out.1).1 h9 (by omega) (by omega)).mono ?_
    rintro e w5 ⟨g5, X, rfl, hXX⟩
    have HX5 := Lib.hid (HX4.out.gr0 g5)
    have HR5 := Lib.hid (HR4.out.gr0 g5)
    have HG5 := Lib.hid (HG4.out.next0 g5)
    have sb5 := Lib.hid (And.intro (sb4.out.1.gr0 g5) sb4.out.2)
    clear g5 x0 x1 x2 x3 x4 HX4 HR4 HG4 sb4
    rcases hXX with ⟨hX, hR, hq⟩ | ⟨hne, hno⟩
    · obtain rfl := hX.symm
      have HRQ := Lib.hid (And.intro hR hq)
      clear hR hq hX
      have x0 := HX5.out.cell 0
      have x1 := HX5.out.cell 1
      have x2 := HX5.out.cell 2
      have x3 := HX5.out.cell 3
      have x4 := HX5.out.cell 4
      have r0 := HR5.out.cell 0
      have r1 := HR5.out.cell 1
      have r2 := HR5.out.cell 2
      have r3 := HR5.out.cell 3
      have r4 := HR5.out.cell 4
      have f0 := HR5.out.frozen 0
      have f1 := HR5.out.frozen 1
      have f2 := HR5.out.frozen 2
      have f3 := HR5.out.frozen 3
      have f4 := HR5.out.frozen 4
      go_wp2_with fail
      go_region
      all_goals
        go_wp2_with fail
        refine bodyPost_ret (v := .tuple #[.int .i64 n0, .agg #[(.int .u8 k), (.int .i64 l0), (.int .i64 z0), (.slice none 0 0), (.string ⟨#[]⟩)], .int .i64 0]) (by simp [results, Try.results21, go_sem, *]) rfl ⟨?_, .inl ⟨k, l0, z0, [], ⟨#[]⟩, n0, none, 0, rfl, ?_, HRQ.out.1, by omega, by omega, HRQ.out.2⟩⟩
        · exact (((((HG5.out.setCell (p := ⟨w.heap.size, 0, none⟩) (.inr (Nat.le_refl _)) _).setCell (p := ⟨w.heap.size, 1, none⟩) (.inr (Nat.le_refl _)) _).setCell (p := ⟨w.heap.size, 2, none⟩) (.inr (Nat.le_refl _)) _).setCell (p := ⟨w.heap.size, 3, none⟩) (.inr (Nat.le_refl _)) _).setCell (p := ⟨w.heap.size, 4, none⟩) (.inr (Nat.le_refl _)) _).drew
        · exact sb5.out.1.gr ((((((Gr.refl [w.heap.size] w5).setCell (p := ⟨w.heap.size, 0, none⟩) (.inl (by simp)) _).setCell (p := ⟨w.heap.size, 1, none⟩) (.inl (by simp)) _).setCell (p := ⟨w.heap.size, 2, none⟩) (.inl (by simp)) _).setCell (p := ⟨w.heap.size, 3, none⟩) (.inl (by simp)) _).setCell (p := ⟨w.heap.size, 4, none⟩) (.inl (by simp)) _).drew (fun x hx => by have := sb5.out.2 x hx; simp; omega)
    · have hqe := beq_ne hne
      have HNO := Lib.hid (show ¬ ∃ (k : Nat) (l z : Int) (b : List (Int × Int)) (t : ByteArray) (n : Int), Right16 k l z b t ∧ 0 ≤ n ∧ n ≤ 65535 ∧ s.data.toList = txtL k l z b t n by
        rintro ⟨k', l', z', b', t', n', hr', q0, q1, hq'⟩
        obtain ⟨rfl, rfl, rfl, rfl, q5⟩ := HX0.out k' l' z' b' t' n' hr' q0 q1 hq'
        have hb' := List.length_eq_zero_iff.1 (show b'.length = 0 by have := hr'.2.2; omega)
        subst hb'
        have ht' := bs_nil (show t'.size = 0 by have := hr'.2.2; omega)
        subst ht'
        exact hno ⟨hr', hq'⟩)
      clear hne hno
      have r0 := HR5.out.cell 0
      have r1 := HR5.out.cell 1
      have r2 := HR5.out.cell 2
      have r3 := HR5.out.cell 3
      have r4 := HR5.out.cell 4
      have f0 := HR5.out.frozen 0
      have f1 := HR5.out.frozen 1
      have f2 := HR5.out.frozen 2
      have f3 := HR5.out.frozen 3
      have f4 := HR5.out.frozen 4
      go_wp2_with fail
      refine bodyPost_ret (v := .tuple #[.int .i64 0, .agg #[.int .u8 0, .int .i64 0, .int .i64 0, .slice none 0 0, .string ⟨#[]⟩], .int .i64 4]) (by simp [results, Try.results21, go_sem, *]) rfl ⟨?_, .inr ⟨rfl, HNO.out⟩⟩
      exact ((((HG5.out.setCell (p := ⟨w.heap.size, 0, none⟩) (.inr (Nat.le_refl _)) _).setCell (p := ⟨w.heap.size, 1, none⟩) (.inr (Nat.le_refl _)) _).setCell (p := ⟨w.heap.size, 2, none⟩) (.inr (Nat.le_refl _)) _).setCell (p := ⟨w.heap.size, 3, none⟩) (.inr (Nat.le_refl _)) _).setCell (p := ⟨w.heap.size, 4, none⟩) (.inr (Nat.le_refl _)) _


theorem iparse_any (s : ByteArray) (w : World) (hs : s.size ≤ maxLen) : Calls Try.prog 21 #[.string s] w (PasI s w) := by
  by_cases h9 : s.size < 9
  · exact iparse_short s w h9
  have h2 : 2 < s.size := by omega
  by_cases k1 : s[2].toNat = 1
  · exact iparse_file s w (by omega) hs h2 k1
  by_cases k3 : s[2].toNat = 3
  · exact iparse_link s w (by omega) hs h2 k3
  exact iparse_else s s[2].toNat w (by omega) hs h2 rfl (by omega) (by omega)

end Go.Proofs.Ytpkhfdcokcchdab
