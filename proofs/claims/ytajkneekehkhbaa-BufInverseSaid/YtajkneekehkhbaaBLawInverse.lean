/-
  The law BufInverse returns true: what a builder has appended is read at the same offset, and the arguments are not changed. For every input: no condition. By the verifier.
-/
import Derived.Test.YtajkneekehkhbaaBNil
import Derived.Test.YtajkneekehkhbaaRows
set_option linter.unusedVariables false
namespace Go.Proofs.Ytajkneekehkhbaa.LawInverse
open Go.RowKit Go.ChangeShapes Go.WideShapes Go.ChangeAt

theorem walk_long1 (A : Option Addr) (L c : Nat) (x : Int) (A2 : Option Addr) (L2 c2 : Nat) (h1 : 300 < L) (w : World) :
    Calls Try.prog 6 #[.slice A L c, .int .u64 x, .slice A2 L2 c2] w fun e w' => e = .returned (.bool true) ∧ Below w.heap.size w w' := by
  have hq : decide ((300 : Int) < (L : Int)) = true := by simp; omega
  go_enter Try.func6, Try.ntmps6
  go_wp2_with fail
  all_goals (refine (alive_ok _).mono ?_)
  all_goals rintro e w1 ⟨rfl, hb1⟩
  all_goals go_wp2_with fail
  all_goals go_ret
  all_goals exact ⟨rfl, hb1⟩

theorem walk_long2 (A : Option Addr) (L c : Nat) (x : Int) (A2 : Option Addr) (L2 c2 : Nat) (h1 : ¬ 300 < L) (h2 : 300 < L2) (w : World) :
    Calls Try.prog 6 #[.slice A L c, .int .u64 x, .slice A2 L2 c2] w fun e w' => e = .returned (.bool true) ∧ Below w.heap.size w w' := by
  have hq : ¬ (300 : Int) < (L : Int) := by omega
  have hq2 : (300 : Int) < (L2 : Int) := by omega
  go_enter Try.func6, Try.ntmps6
  go_wp2_with fail
  all_goals (refine (alive_ok _).mono ?_)
  all_goals rintro e w1 ⟨rfl, hb1⟩
  all_goals go_wp2_with fail
  all_goals go_ret
  all_goals exact ⟨rfl, hb1⟩

theorem sub_mid (a b c : List Nat) : sub (a ++ (b ++ c)) a.length b.length = b := by
  unfold sub
  rw [List.drop_left, List.take_left]

/-- A number that stands in the middle is read. -/
theorem num_mid {t a c : List Nat} {n x k : Nat} (ht : t = a ++ (leB n x ++ c)) (hk : k = a.length) : numV t (k : Int) n = ((x % 256 ^ n : Nat) : Int) ∧ exB t (k : Int) n = true := by
  subst hk
  have hl : a.length + n ≤ t.length := by rw [ht, List.length_append, List.length_append, leB_len]; omega
  have hs : sub t a.length n = leB n x := by
    have := sub_mid a (leB n x) c
    rw [leB_len] at this
    rw [ht]
    exact this
  refine ⟨?_, exB_yes (by unfold Ex; omega)⟩
  rw [numV_yes hl, hs, leV_leB]

/-- What is appended. -/
def tot (f : List Nat) (x : Nat) (l : List Nat) : List Nat := f ++ leB 8 x ++ leB 4 (x % 4294967296) ++ leB 2 (x % 65536) ++ leB 1 (x % 256) ++ l

theorem tot_len (f : List Nat) (x : Nat) (l : List Nat) : (tot f x l).length = f.length + 15 + l.length := by
  unfold tot
  simp only [List.length_append, leB_len]

theorem tot_bs {f : List Nat} (x : Nat) {l : List Nat} (hf : Bs f) (hl : Bs l) : Bs (tot f x l) := by
  unfold tot
  exact ((((hf.append (leB_bs _ _)).append (leB_bs _ _)).append (leB_bs _ _)).append (leB_bs _ _)).append hl

set_option maxHeartbeats 4000000 in
set_option maxRecDepth 100000 in
theorem walk (A : Option Addr) (f : List Nat) (c : Nat) (x : Nat) (hx : x < 18446744073709551616) (A2 : Option Addr) (l : List Nat) (c2 : Nat) (w : World) (hf : Bys w A f) (hl : Bys w A2 l) :
    Calls Try.prog 6 #[.slice A f.length c, .int .u64 (x : Int), .slice A2 l.length c2] w fun e w' => e = .returned (.bool true) ∧ Below w.heap.size w w' := by
  by_cases h1 : 300 < f.length
  · exact walk_long1 A f.length c x A2 l.length c2 h1 w
  by_cases h2 : 300 < l.length
  · exact walk_long2 A f.length c x A2 l.length c2 h1 h2 w
  have hq1 : ¬ (300 : Int) < (f.length : Int) := by omega
  have hq2 : ¬ (300 : Int) < (l.length : Int) := by omega
  obtain ⟨z, hz⟩ : ∃ z : Int, z = (x : Int) := ⟨_, rfl⟩
  have HX : Hid (x < 18446744073709551616 ∧ f.length ≤ 300 ∧ l.length ≤ 300) := Lib.hid ⟨hx, by omega, by omega⟩
  have HF := Lib.hid hf
  have HL := Lib.hid hl
  have H64 : Hid (∀ (W : World) (B : Nat) (g : Option Nat), Bld W B g f → Calls Try.prog 24 #[.pointer (some ⟨B, 0, none⟩), .int .u64 z] W fun e w' => AddRes W B g (f ++ leB 8 x) e w') :=
    Lib.hid fun W B g hb => by rw [hz]; exact u64_ok B g f x hx W hb (by omega)
  have H32 : Hid (∀ (W : World) (B : Nat) (g : Option Nat), Bld W B g (f ++ leB 8 x) → Calls Try.prog 25 #[.pointer (some ⟨B, 0, none⟩), .int .u32 (z % 4294967296)] W fun e w' => AddRes W B g (f ++ leB 8 x ++ leB 4 (x % 4294967296)) e w') :=
    Lib.hid fun W B g hb => by rw [hz]; exact u32_ok B g _ (x % 4294967296) (by omega) W hb (by simp only [List.length_append, leB_len]; omega)
  have H16 : Hid (∀ (W : World) (B : Nat) (g : Option Nat), Bld W B g (f ++ leB 8 x ++ leB 4 (x % 4294967296)) → Calls Try.prog 26 #[.pointer (some ⟨B, 0, none⟩), .int .u16 (z % 65536)] W fun e w' => AddRes W B g (f ++ leB 8 x ++ leB 4 (x % 4294967296) ++ leB 2 (x % 65536)) e w') :=
    Lib.hid fun W B g hb => by rw [hz]; exact u16_ok B g _ (x % 65536) (by omega) W hb (by simp only [List.length_append, leB_len]; omega)
  have H8 : Hid (∀ (W : World) (B : Nat) (g : Option Nat), Bld W B g (f ++ leB 8 x ++ leB 4 (x % 4294967296) ++ leB 2 (x % 65536)) → Calls Try.prog 27 #[.pointer (some ⟨B, 0, none⟩), .int .u8 (z % 256)] W fun e w' => AddRes W B g (f ++ leB 8 x ++ leB 4 (x % 4294967296) ++ leB 2 (x % 65536) ++ leB 1 (x % 256)) e w') :=
    Lib.hid fun W B g hb => by rw [hz]; exact u8_ok B g _ (x % 256) (by omega) W hb (by simp only [List.length_append, leB_len]; omega)
  have HA : Hid (∀ (W : World) (B : Nat) (g : Option Nat), Bld W B g (f ++ leB 8 x ++ leB 4 (x % 4294967296) ++ leB 2 (x % 65536) ++ leB 1 (x % 256)) → Bys W A2 l → Calls Try.prog 28 #[.pointer (some ⟨B, 0, none⟩), .slice A2 l.length c2] W fun e w' => AddRes W B g (tot f x l) e w') :=
    Lib.hid fun W B g hb hy => add_ok B g _ A2 l c2 W hb hy (by simp only [List.length_append, leB_len]; omega)
  have htl := tot_len f x l
  have HTB := Lib.hid (tot_bs x hf.2.1 hl.2.1)
  have hm64 := num_mid (t := tot f x l) (a := f) (n := 8) (x := x) (c := leB 4 (x % 4294967296) ++ leB 2 (x % 65536) ++ leB 1 (x % 256) ++ l) (by unfold tot; simp only [List.append_assoc]) rfl
  have hm32 := num_mid (t := tot f x l) (a := f ++ leB 8 x) (n := 4) (x := x % 4294967296) (k := f.length + 8) (c := leB 2 (x % 65536) ++ leB 1 (x % 256) ++ l) (by unfold tot; simp only [List.append_assoc]) (by simp only [List.length_append, leB_len])
  have hm16 := num_mid (t := tot f x l) (a := f ++ leB 8 x ++ leB 4 (x % 4294967296)) (n := 2) (x := x % 65536) (k := f.length + 12) (c := leB 1 (x % 256) ++ l) (by unfold tot; simp only [List.append_assoc]) (by simp only [List.length_append, leB_len])
  have hm8 := num_mid (t := tot f x l) (a := f ++ leB 8 x ++ leB 4 (x % 4294967296) ++ leB 2 (x % 65536)) (n := 1) (x := x % 256) (k := f.length + 14) (c := l) (by unfold tot; simp only [List.append_assoc]) (by simp only [List.length_append, leB_len])
  have hsub : sub (tot f x l) (f.length + 15) l.length = l := by
    have := sub_mid (f ++ leB 8 x ++ leB 4 (x % 4294967296) ++ leB 2 (x % 65536) ++ leB 1 (x % 256)) l []
    rw [List.append_nil] at this
    simp only [List.length_append, leB_len] at this
    exact this
  have e64 : x % 256 ^ 8 = x := Nat.mod_eq_of_lt (by have : (256 : Nat) ^ 8 = 18446744073709551616 := by decide
                                                     omega)
  have e32 : x % 4294967296 % 256 ^ 4 = x % 4294967296 := Nat.mod_eq_of_lt (by have : (256 : Nat) ^ 4 = 4294967296 := by decide
                                                                               omega)
  have e16 : x % 65536 % 256 ^ 2 = x % 65536 := Nat.mod_eq_of_lt (by have : (256 : Nat) ^ 2 = 65536 := by decide
                                                                     omega)
  have e8 : x % 256 % 256 ^ 1 = x % 256 := Nat.mod_eq_of_lt (by have : (256 : Nat) ^ 1 = 256 := by decide
                                                                omega)
  rw [e64] at hm64
  rw [e32] at hm32
  rw [e16] at hm16
  rw [e8] at hm8
  have i0 : I64 (f.length : Int) := by unfold I64; omega
  have i8 : I64 ((f.length + 8 : Nat) : Int) := by unfold I64; omega
  have i12 : I64 ((f.length + 12 : Nat) : Int) := by unfold I64; omega
  have i14 : I64 ((f.length + 14 : Nat) : Int) := by unfold I64; omega
  generalize tot f x l = t at *
  have HV64 : Hid (∀ (W : World) (A3 : Option Addr) (c3 : Nat), Bys W A3 t → t.length ≤ c3 → Calls Try.prog 12 #[.slice A3 t.length c3, .int .i64 (f.length : Int)] W fun e w' => e = .returned (.tuple #[.int .u64 z, .bool true]) ∧ W = w') :=
    Lib.hid fun W A3 c3 hy hc => by
      have := view64_ok A3 t c3 _ W hy hc i0
      rw [hm64.1, show exB t (f.length : Int) 8 = true from hm64.2, ← hz] at this
      exact this
  have HV32 : Hid (∀ (W : World) (A3 : Option Addr) (c3 : Nat), Bys W A3 t → t.length ≤ c3 → Calls Try.prog 11 #[.slice A3 t.length c3, .int .i64 ((f.length : Int) + 8)] W fun e w' => e = .returned (.tuple #[.int .u32 (z % 4294967296), .bool true]) ∧ W = w') :=
    Lib.hid fun W A3 c3 hy hc => by
      have := view32_ok A3 t c3 _ W hy hc i8
      rw [hm32.1, show exB t ((f.length + 8 : Nat) : Int) 4 = true from hm32.2, Int.natCast_emod, ← hz] at this
      exact this
  have HV16 : Hid (∀ (W : World) (A3 : Option Addr) (c3 : Nat), Bys W A3 t → t.length ≤ c3 → Calls Try.prog 10 #[.slice A3 t.length c3, .int .i64 ((f.length : Int) + 12)] W fun e w' => e = .returned (.tuple #[.int .u16 (z % 65536), .bool true]) ∧ W = w') :=
    Lib.hid fun W A3 c3 hy hc => by
      have := view16_ok A3 t c3 _ W hy hc i12
      rw [hm16.1, show exB t ((f.length + 12 : Nat) : Int) 2 = true from hm16.2, Int.natCast_emod, ← hz] at this
      exact this
  have HV8 : Hid (∀ (W : World) (A3 : Option Addr) (c3 : Nat), Bys W A3 t → t.length ≤ c3 → Calls Try.prog 9 #[.slice A3 t.length c3, .int .i64 ((f.length : Int) + 14)] W fun e w' => e = .returned (.tuple #[.int .u8 (z % 256), .bool true]) ∧ W = w') :=
    Lib.hid fun W A3 c3 hy hc => by
      have := view8_ok A3 t c3 _ W hy hc i14
      rw [hm8.1, show exB t ((f.length + 14 : Nat) : Int) 1 = true from hm8.2, Int.natCast_emod, ← hz] at this
      exact this
  have HPA : Hid (∀ (W : World) (A3 : Option Addr) (c3 : Nat), Bys W A3 t → t.length ≤ c3 → Calls Try.prog 14 #[.slice A3 t.length c3, .int .i64 ((f.length : Int) + 15), .int .i64 (l.length : Int)] W fun e w' => PartRes W l e w') :=
    Lib.hid fun W A3 c3 hy hc => by
      have := part_ok A3 t c3 (f.length + 15) l.length W hy hc (by omega) (by omega)
      rw [hsub] at this
      exact this
  have HLN : Hid (∀ (W : World) (B : Nat) (g : Option Nat), Bld W B g t → Calls Try.prog 22 #[.pointer (some ⟨B, 0, none⟩)] W fun e w' => e = .returned (.int .i64 ((f.length : Int) + 15 + (l.length : Int))) ∧ W = w') :=
    Lib.hid fun W B g hb => by
      have := len_ok B g t W hb (by omega)
      have e : (t.length : Int) = (f.length : Int) + 15 + (l.length : Int) := by omega
      rw [e] at this
      exact this
  have HTL : Hid (t.length ≤ 700) := Lib.hid (by omega)
  have hz0 : 0 ≤ z := by omega
  rw [← hz]
  clear hf hl h1 h2 hx hz htl hm64 hm32 hm16 hm8 hsub e64 e32 e16 e8 i0 i8 i12 i14
  go_enter Try.func6, Try.ntmps6
  go_wp2_with fail
  refine (new_ok A f c w HF.out (by have := HX.out; omega)).mono ?_
  rintro e w1 ⟨B, g, rfl, hbld, hb1, hB, hg⟩
  have HB1 := Lib.hid hbld
  have HW1 := Lib.hid hb1
  have HG1 := Lib.hid (And.intro hB hg)
  clear hbld hb1 hB hg
  go_wp2_with fail
  refine (len_ok B g f w1 HB1.out (by have := HX.out; omega)).mono ?_
  rintro e w' ⟨rfl, rfl⟩
  go_wp2_with fail
  refine (H64.out w1 B g HB1.out).mono ?_
  rintro e w2 ⟨rfl, g2, hm⟩
  have HM2 := Lib.hid hm
  clear hm
  go_wp2_with fail
  refine (H32.out w2 B g2 HM2.out.bld).mono ?_
  rintro e w3 ⟨rfl, g3, hm⟩
  have HM3 := Lib.hid (HM2.out.trans hm)
  clear hm HM2
  go_wp2_with fail
  refine (H16.out w3 B g3 HM3.out.bld).mono ?_
  rintro e w4 ⟨rfl, g4, hm⟩
  have HM4 := Lib.hid (HM3.out.trans hm)
  clear hm HM3
  go_wp2_with fail
  refine (H8.out w4 B g4 HM4.out.bld).mono ?_
  rintro e w5 ⟨rfl, g5, hm⟩
  have HM5 := Lib.hid (HM4.out.trans hm)
  clear hm HM4
  have HBW5 := Lib.hid (HW1.out.trans (HM5.out.below HW1.out.size HG1.out.1 HG1.out.2))
  go_wp2_with fail
  refine (HA.out w5 B g5 HM5.out.bld (HL.out.below (Nat.le_refl _) HBW5.out)).mono ?_
  rintro e w6 ⟨rfl, g6, hm⟩
  have HM6 := Lib.hid (HM5.out.trans hm)
  clear hm HM5 HBW5
  have HW6 := Lib.hid (HW1.out.trans (HM6.out.below HW1.out.size HG1.out.1 HG1.out.2))
  have HB6 := Lib.hid HM6.out.bld
  clear HM6 HW1 HB1
  go_wp2_with fail
  refine (bytes_ok B g6 t w6 HB6.out (by have := HTL.out; omega)).mono ?_
  rintro e w7 ⟨v7, rfl, ho, hb⟩
  obtain ⟨A7, c7, rfl, hy, hc, -, -⟩ := ho.slice HTB.out (by have := HTL.out; unfold maxLen; omega)
  have HY := Lib.hid hy
  have HC := Lib.hid hc
  have HW7 := Lib.hid (HW6.out.trans (hb.mono HW6.out.size))
  have HB7 := Lib.hid (HB6.out.below hb)
  clear ho hb hy hc HW6 HB6
  go_wp2_with fail
  refine (HV64.out w7 A7 c7 HY.out HC.out).mono ?_
  rintro e w' ⟨rfl, rfl⟩
  go_wp2_with fail
  refine (HV32.out w7 A7 c7 HY.out HC.out).mono ?_
  rintro e w' ⟨rfl, rfl⟩
  go_wp2_with fail
  refine (HV16.out w7 A7 c7 HY.out HC.out).mono ?_
  rintro e w' ⟨rfl, rfl⟩
  go_wp2_with fail
  refine (HV8.out w7 A7 c7 HY.out HC.out).mono ?_
  rintro e w' ⟨rfl, rfl⟩
  go_wp2_with fail
  refine (HPA.out w7 A7 c7 HY.out HC.out).mono ?_
  rintro e w8 ⟨v8, rfl, ho, hb⟩
  obtain ⟨A8, c8, rfl, hy, -, -, -⟩ := ho.slice HL.out.2.1 HL.out.2.2
  have HY8 := Lib.hid hy
  have HW8 := Lib.hid (HW7.out.trans (hb.mono HW7.out.size))
  have HB8 := Lib.hid (HB7.out.below hb)
  clear ho hb hy HW7 HB7 HY HC
  go_wp2_with fail
  refine (alive_ok _).mono ?_
  rintro e w9 ⟨rfl, hb⟩
  have HY9 := Lib.hid (HY8.out.below (Nat.le_refl _) hb)
  have HW9 := Lib.hid (HW8.out.trans (hb.mono HW8.out.size))
  have HB9 := Lib.hid (HB8.out.below hb)
  clear hb HW8 HB8 HY8
  have HEQ : Hid (Calls Try.prog 18 #[.slice A8 l.length c8, .slice A2 l.length c2] w9 fun e w' => e = .returned (.bool true) ∧ Below w9.heap.size w9 w') := by
    have := equal_ok A8 A2 l l c8 c2 w9 HY9.out (HL.out.below (Nat.le_refl _) HW9.out)
    rw [decide_eq_true rfl] at this
    exact Lib.hid this
  go_wp2_with fail
  refine HEQ.out.mono ?_
  rintro e w10 ⟨rfl, hb⟩
  have HW10 := Lib.hid (HW9.out.trans (hb.mono HW9.out.size))
  have HB10 := Lib.hid (HB9.out.below hb)
  clear hb HW9 HB9 HY9
  go_wp2_with fail
  refine (HLN.out w10 B g6 HB10.out).mono ?_
  rintro e w' ⟨rfl, rfl⟩
  go_wp2_with fail
  go_ret
  exact ⟨rfl, HW10.out⟩

theorem own : ownKnob Try.prog.godebug = none := by kernel_rfl

set_option maxRecDepth 100000 in
theorem lifted (os : Os) (started : os.Started) (H : Type) (enc : TypeId × Value → H) :
    ReturnsInHanded {} Try.checked os 6 .any (Rows.bufInverseSpec.pre6 enc Try.prog Try.f6 Rows.bufInverseRow.domain false) (Rows.bufInverseSpec.post enc Try.prog Try.f6 false true false false) := by
  refine returnsInHanded_of_change (C := Try.checked) own started (by kernel_rfl) Try.func6
    (ChangeSpec.witness6 (enc := enc) (C := Try.checked) false ⟨#[], #[.slice none 0 0, .int .u64 0, .slice none 0 0], []⟩ 8 (by kernel_rfl) (by kernel_rfl) (by kernel_rfl) (by kernel_rfl)) ?_
  intro W base args ds gs before hval0 hW hcnd _
  have hval : ∀ (j : Nat) t v, Try.f6.params[j]? = some t → args[j]? = some v → Value.okWide Try.prog W .any base t v := hval0
  have hW' := hW
  obtain ⟨p, q, hA0, hV, rfl, hfz, hnd⟩ := hW
  have hA : DataW.TrodAll enc Try.prog W 0 (fun _ => true) true Try.f6.params.toList args.toList ds p := hA0
  rw [Try.params6] at hA hval
  obtain ⟨v0, vs0, d0, ds0, p0, q0, hargs, rfl, rfl, h0, r0⟩ := trodAll_cons hA
  obtain ⟨v1, vs1, d1, ds1, p1, q1, rfl, rfl, rfl, h1, r1⟩ := trodAll_cons r0
  obtain ⟨v2, vs2, d2, ds2, p2, q2, rfl, rfl, rfl, h2, r2⟩ := trodAll_cons r1
  obtain ⟨rfl, rfl, rfl⟩ := trodAll_nil r2
  obtain rfl : args = #[v0, v1, v2] := by cases args; simp_all
  obtain ⟨rfl, rfl⟩ := trodVars_none hV
  obtain ⟨A0, l0, c0, rfl, hb0, hc0⟩ := open_bytes Try.underlying22 Try.underlying5 (by kernel_rfl) (hval 0 22 v0 rfl rfl) h0
  obtain ⟨a1, rfl, rfl, rfl, w1⟩ := open_int Try.underlying33 (hval 1 33 v1 rfl rfl) h1
  obtain ⟨A2, l2, c2, rfl, hb2, hc2⟩ := open_bytes Try.underlying22 Try.underlying5 (by kernel_rfl) (hval 2 22 v2 rfl rfl) h2
  have hx : 0 ≤ a1 ∧ a1 < 18446744073709551616 := by simp [Lit.wf, IntKind.min, IntKind.max, IntKind.signed, IntKind.bits] at w1; omega
  obtain ⟨x1, rfl⟩ := Int.eq_ofNat_of_zero_le hx.1
  clear hA0 hval0
  simp only [List.append_nil] at hW'
  refine (walk A0 l0 c0 x1 (by omega) A2 l2 c2 W hb0 hb2).mono fun e W' ⟨he, hg⟩ => ?_
  subst he
  exact law_post (by kernel_rfl) rfl rfl (by kernel_rfl) (by kernel_rfl) Try.underlying4 hW' hg

/-- WHAT IS PROVED. -/
theorem proved : Rows.BufInverseSaid :=
  OpenClaim.holds_of_wide 6 Try.f6 rfl rfl rfl rfl rfl rfl rfl ⟨rfl, rfl, rfl, rfl, rfl⟩ rfl rfl rfl rfl rfl (by kernel_rfl) Try.func6 (by kernel_rfl)
    (of_decide_eq_true (by kernel_rfl)) (by unfold Func.isWrapper; first | (rw [if_pos (by decide +kernel)]; kernel_rfl) | (rw [if_neg (by decide +kernel)]; exact ⟨rfl, rfl⟩))
    (fun os started H enc _ => lifted os started H enc)

end Go.Proofs.Ytajkneekehkhbaa.LawInverse
