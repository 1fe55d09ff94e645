/-
  The law BufParts returns true: Part returns a copy of a part that exists, and Dirty the offset of the reference, and the arguments are not changed. For every input: no condition. By the verifier.
-/
import Derived.Test.YtajkneekehkhbaaBSpoil
import Derived.Test.YtajkneekehkhbaaRows
set_option linter.unusedVariables false
namespace Go.Proofs.Ytajkneekehkhbaa.LawParts
open Go.RowKit Go.ChangeShapes Go.WideShapes Go.ChangeAt

theorem walk_long (A : Option Addr) (L c : Nat) (x y : Int) (h1 : 1000 < L) (w : World) :
    Calls Try.prog 4 #[.slice A L c, .int .i64 x, .int .i64 y] w fun e w' => e = .returned (.bool true) ∧ Below w.heap.size w w' := by
  have hq : (1000 : Int) < (L : Int) := by omega
  go_enter Try.func4, Try.ntmps4
  go_wp2_with fail
  refine (alive_ok _).mono ?_
  rintro e w1 ⟨rfl, hb1⟩
  go_wp2_with fail
  go_ret
  exact ⟨rfl, hb1⟩

/-- The own copy at the start. -/
structure Own (w : World) (l : List Nat) (w1 : World) (A : Option Addr) (c : Nat) : Prop where
  bys : Bys w1 A l
  cap : l.length ≤ c
  below : Below w.heap.size w w1
  lt : ∀ a, A = some a → a.block < w1.heap.size ∧ w.heap.size ≤ a.block

theorem Own.next {w : World} {l : List Nat} {w1 w2 : World} {A : Option Addr} {c : Nat} (h : Own w l w1 A c) (hb : Below w1.heap.size w1 w2) : Own w l w2 A c :=
  ⟨h.bys.below (Nat.le_refl _) hb, h.cap, h.below.trans (hb.mono h.below.size), fun a ha => ⟨Nat.lt_of_lt_of_le (h.lt a ha).1 hb.size, (h.lt a ha).2⟩⟩
theorem Own.spoil {w : World} {l : List Nat} {w1 w2 : World} {A : Option Addr} {c : Nat} {v : Value} {n N : Nat} (h : Own w l w1 A c) (hs : Spoil w1 w2 v n) (hN : ∀ k, v.ownBlock = some k → N ≤ k) (hA : ∀ a, A = some a → a.block < N) (hw : w.heap.size ≤ N) : Own w l w2 A c := by
  obtain ⟨S, -, -, -, ht⟩ := hs
  refine ⟨ht.bys h.bys (fun a ha hk => ?_), h.cap, h.below.trans (ht.below (fun k hk => Nat.le_trans hw (hN k hk)) h.below.size), fun a ha => ⟨Nat.lt_of_lt_of_le (h.lt a ha).1 ht.size, (h.lt a ha).2⟩⟩
  have := hN _ hk
  have := hA a ha
  omega

theorem size_bytes : (sizeOf (Try.prog.elem 22)).run Try.prog = fun w => .ok 1 w := by
  funext w
  obtain ⟨i, h2, h3, h4, h5⟩ := info_parts info8
  have e : Try.prog.elem 22 = 5 := by kernel_rfl
  simp [e, sizeOf, typeInfo, h2, h4]

theorem run_sub (A : Option Addr) (L c x n : Nat) (hc : x + n ≤ c) (W : World) : (Instr.slice 22 (.slice A L c) (some (.int .i64 (x : Int))) (some (.int .i64 ((x : Int) + (n : Int)))) none).run Try.prog W =
    .ok (.slice (pAt A c x) n (c - x)) W := by
  rw [run_slice_lh W 22 A L c Try.underlying22 .i64 .i64 x (x + n) (by omega) (by omega) (by omega), size_bytes]
  have e : ((x : Int) + (n : Int)).toNat = x + n := by omega
  simp [Result.andThen, sliced, e, pAt]

set_option maxHeartbeats 2000000 in
set_option maxRecDepth 100000 in
theorem walk_no (A : Option Addr) (l : List Nat) (c : Nat) (x y : Int) (w : World) (hl : Bys w A l) (hc : l.length ≤ c) (hx : I64 x) (hy : I64 y) (h1 : l.length ≤ 1000) (h : ¬ Ex l.length x y) :
    Calls Try.prog 4 #[.slice A l.length c, .int .i64 x, .int .i64 y] w fun e w' => e = .returned (.bool true) ∧ Below w.heap.size w w' := by
  have hq : ¬ (1000 : Int) < (l.length : Int) := by omega
  have HO := Lib.hid (own_lit w)
  have hA1 : Below w.heap.size w (w.alloc (.cells #[] 5)) := (Below.refl _ _).alloc (Nat.le_refl _) _
  have HB := Lib.hid (hl.below (Nat.le_refl _) hA1)
  have hsz : w.heap.size ≤ (w.alloc (.cells #[] 5)).heap.size := by simp
  have HL := Lib.hid hl
  have HC := Lib.hid hc
  have HI := Lib.hid (And.intro hx hy)
  have HX := Lib.hid h
  obtain ⟨d, hd⟩ : ∃ d : Int, d = dirtV l x y := ⟨_, rfl⟩
  have HD := Lib.hid hd
  have HS := Lib.hid h1
  clear hl hc hx hy h hd h1
  go_enter Try.func4, Try.ntmps4
  go_wp2_with ((with_reducible refine wpList_append_t 22 Try.underlying22 rfl (.tmp 16) (.tmp 17) rfl w.heap.size (.slice (some ⟨w.heap.size, 0, none⟩) 0 0) [] rfl HO.out A l l.length c rfl rfl HB.out (by have := HS.out; simp; omega) hsz ?_); intro v1 w1 ho1 hg1 hf1; have hb1 := grown_below hA1 HO.out hg1 hsz; rw [List.nil_append] at ho1; obtain ⟨A1, c1, rfl, hy1, hc1, ha1⟩ := ho1.shape HB.out.2.1 HB.out.2.2; have HW := Lib.hid (Own.mk hy1 hc1 hb1 ha1 : Own w l w1 A1 c1); clear ho1 hg1 hf1 hb1 hy1 hc1 ha1)
  refine (part_none A1 l c1 x y w1 HW.out.bys HI.out.1 HI.out.2 HX.out).mono ?_
  rintro e w2 ⟨rfl, hb2⟩
  have HW2 := Lib.hid (HW.out.next hb2)
  clear hb2 HW
  go_wp2_with fail
  refine (dirty_ok A1 l c1 x y w2 HW2.out.bys HW2.out.cap HI.out.1 HI.out.2).mono ?_
  rintro e w' ⟨rfl, rfl⟩
  rw [← HD.out]
  go_wp2_with fail
  refine (rdirty_ok A l c x y w2 (HL.out.below (Nat.le_refl _) HW2.out.below) HC.out HI.out.1 HI.out.2).mono ?_
  rintro e w' ⟨rfl, rfl⟩
  rw [← HD.out]
  go_wp2_with fail
  refine (exists_ok A l c x y HL.out.2.2 HI.out.1 HI.out.2 w2).mono ?_
  rintro e w' ⟨rfl, rfl⟩
  rw [exB_no HX.out]
  go_wp2_with fail
  refine (alive_ok _).mono ?_
  rintro e w3 ⟨rfl, hb3⟩
  have HB3 := Lib.hid (HW2.out.below.trans (hb3.mono HW2.out.below.size))
  clear hb3
  go_wp2_with fail
  go_ret
  exact ⟨rfl, HB3.out⟩

set_option maxHeartbeats 2000000 in
set_option maxRecDepth 100000 in
theorem walk_yes (A : Option Addr) (l : List Nat) (c : Nat) (k n : Nat) (w : World) (hl : Bys w A l) (hc : l.length ≤ c) (h1 : l.length ≤ 1000) (h : k + n ≤ l.length) :
    Calls Try.prog 4 #[.slice A l.length c, .int .i64 (k : Int), .int .i64 (n : Int)] w fun e w' => e = .returned (.bool true) ∧ Below w.heap.size w w' := by
  have hq : ¬ (1000 : Int) < (l.length : Int) := by omega
  have HO := Lib.hid (own_lit w)
  have hA1 : Below w.heap.size w (w.alloc (.cells #[] 5)) := (Below.refl _ _).alloc (Nat.le_refl _) _
  have HB := Lib.hid (hl.below (Nat.le_refl _) hA1)
  have hsz : w.heap.size ≤ (w.alloc (.cells #[] 5)).heap.size := by simp
  have HL := Lib.hid hl
  have HC := Lib.hid hc
  have HI : Hid (I64 (k : Int) ∧ I64 (n : Int)) := Lib.hid (by unfold I64; omega)
  have HX := Lib.hid h
  have HEX : Hid (exB l k n = true) := Lib.hid (exB_yes (by unfold Ex; omega))
  obtain ⟨d, hd⟩ : ∃ d : Int, d = dirtV l k n := ⟨_, rfl⟩
  have HD := Lib.hid hd
  have HS := Lib.hid h1
  have HN := Lib.hid (sub_len h)
  have hkn : (k : Int) + (n : Int) ≤ 1000 := by omega
  have HSL := Lib.hid (run_sub A l.length c k n (by omega))
  have HP := Lib.hid (fun (W : World) (hW : Below w.heap.size w W) => bys_part (hl.below (Nat.le_refl _) hW) c k n hc h)
  obtain ⟨P, hP⟩ : ∃ P, P = pAt A c k := ⟨_, rfl⟩
  obtain ⟨q, hq2⟩ : ∃ q, q = c - k := ⟨_, rfl⟩
  rw [← hP] at HP HSL
  rw [← hq2] at HSL
  have hs := HSL.out
  clear hl hc h hd h1 hP hq2
  go_enter Try.func4, Try.ntmps4
  go_wp2_with ((with_reducible refine wpList_append_t 22 Try.underlying22 rfl (.tmp 16) (.tmp 17) rfl w.heap.size (.slice (some ⟨w.heap.size, 0, none⟩) 0 0) [] rfl HO.out A l l.length c rfl rfl HB.out (by have := HS.out; simp; omega) hsz ?_); intro v1 w1 ho1 hg1 hf1; have hb1 := grown_below hA1 HO.out hg1 hsz; rw [List.nil_append] at ho1; obtain ⟨A1, c1, rfl, hy1, hc1, ha1⟩ := ho1.shape HB.out.2.1 HB.out.2.2; have HW := Lib.hid (Own.mk hy1 hc1 hb1 ha1 : Own w l w1 A1 c1); clear ho1 hg1 hf1 hb1 hy1 hc1 ha1)
  refine (part_ok A1 l c1 k n w1 HW.out.bys HW.out.cap HX.out (by have := HS.out; omega)).mono ?_
  rintro e w2 ⟨v2, rfl, ho2, hb2⟩
  have HW2 := Lib.hid (HW.out.next hb2)
  have HA1 : Hid (∀ a, A1 = some a → a.block < w1.heap.size) := Lib.hid fun a ha => (HW.out.lt a ha).1
  have HWS := Lib.hid HW.out.below.size
  have hbS := sub_bs HB.out.2.1 k n
  obtain ⟨A2, c2, rfl, hy2, -, -, -⟩ := ho2.slice hbS (by rw [HN.out]; unfold maxLen; omega)
  rw [HN.out] at ho2
  have HP2 : Hid (∀ j, (Value.slice A2 n c2).ownBlock = some j → w1.heap.size ≤ j) := Lib.hid fun j hj => (OwnB.lt ho2 hj).1
  have HY2 := Lib.hid hy2
  have hsp := Spoil.refl ho2 hbS
  rw [HN.out] at hsp ⊢
  have HSP := Lib.hid hsp
  clear hb2 HW ho2 hy2 hbS hsp
  go_wp2_with fail
  refine (dirty_ok A1 l c1 k n w2 HW2.out.bys HW2.out.cap HI.out.1 HI.out.2).mono ?_
  rintro e w' ⟨rfl, rfl⟩
  rw [← HD.out]
  go_wp2_with fail
  refine (rdirty_ok A l c k n w2 (HL.out.below (Nat.le_refl _) HW2.out.below) HC.out HI.out.1 HI.out.2).mono ?_
  rintro e w' ⟨rfl, rfl⟩
  rw [← HD.out]
  go_wp2_with fail
  refine (exists_ok A l c k n HL.out.2.2 HI.out.1 HI.out.2 w2).mono ?_
  rintro e w' ⟨rfl, rfl⟩
  rw [HEX.out]
  have HEQ : Hid (Calls Try.prog 18 #[.slice A2 n c2, .slice P n q] w2 fun e w' => e = .returned (.bool true) ∧ Below w2.heap.size w2 w') := by
    have := equal_ok A2 P (sub l k n) (sub l k n) c2 q w2 HY2.out (HP.out w2 HW2.out.below)
    rw [decide_eq_true rfl, HN.out] at this
    exact Lib.hid this
  go_wp2_with fail
  refine HEQ.out.mono ?_
  rintro e w3 ⟨rfl, hb3⟩
  have HW3 := Lib.hid (HW2.out.next hb3)
  have hsp : Spoil w3 w3 (.slice A2 n c2) n := by
    obtain ⟨S, h1, h2, h3, -⟩ := HSP.out
    exact ⟨S, h1.below hb3, h2, h3, Turn.refl _ _⟩
  have HS3 := Lib.hid hsp
  clear hsp hb3 HEQ HSP HY2 HW2
  go_wp2_with fail
  go_loopw [60] (fun i wr => ∃ k : Nat, k ≤ n ∧ i = .int .i64 (k : Int) ∧ Hid (Spoil w3 wr (.slice A2 n c2) n)) (fun i _ => n - (intOf i).toNat)
  case atStart => exact ⟨0, by omega, rfl, HS3⟩
  case round =>
    obtain ⟨j, hj, rfl, hsp⟩ := hrel
    by_cases hlt : j < n
    · obtain ⟨g, x, rfl, hx, hcell, hfr, hst⟩ := hsp.out.at hlt
      have hjn : (j : Int) < (n : Int) := by omega
      have HST := Lib.hid (hst ((x + 1) % 256) (Nat.mod_lt _ (by omega)))
      obtain ⟨z, hz⟩ : ∃ z : Int, z = (x : Int) := ⟨_, rfl⟩
      have HZ : Hid (V8 ((x + 1) % 256) = .int .u8 ((z + 1) % 256)) := Lib.hid (by rw [hz]; rfl)
      rw [HZ.out] at HST
      rw [← hz] at hcell
      clear hst hsp hz hx
      go_wp2_with fail
      go_roundw
      case rel => exact ⟨j + 1, by omega, by go_num, HST⟩
      case measure => simp [intOf]; omega
    · have hjn : ¬ (j : Int) < (n : Int) := by omega
      have HW4 := Lib.hid (HW3.out.spoil hsp.out HP2.out HA1.out HWS.out)
      go_wp2_with fail
      refine (alive_ok _).mono ?_
      rintro e w5 ⟨rfl, hb5⟩
      have HW5 := Lib.hid (HW4.out.next hb5)
      clear hb5
      have HEQ : Hid (Calls Try.prog 18 #[.slice A1 l.length c1, .slice A l.length c] w5 fun e w' => e = .returned (.bool true) ∧ Below w5.heap.size w5 w') := by
        have := equal_ok A1 A l l c1 c w5 HW5.out.bys (HL.out.below (Nat.le_refl _) HW5.out.below)
        rw [decide_eq_true rfl] at this
        exact Lib.hid this
      go_wp2_with fail
      refine HEQ.out.mono ?_
      rintro e w6 ⟨rfl, hb6⟩
      have HB6 := Lib.hid (HW5.out.below.trans (hb6.mono HW5.out.below.size))
      clear hb6
      go_wp2_with fail
      go_ret
      exact ⟨rfl, HB6.out⟩

theorem walk (A : Option Addr) (l : List Nat) (c : Nat) (x y : Int) (w : World) (hl : Bys w A l) (hc : l.length ≤ c) (hx : I64 x) (hy : I64 y) :
    Calls Try.prog 4 #[.slice A l.length c, .int .i64 x, .int .i64 y] w fun e w' => e = .returned (.bool true) ∧ Below w.heap.size w w' := by
  by_cases h1 : 1000 < l.length
  · exact walk_long A l.length c x y h1 w
  · by_cases h : Ex l.length x y
    · obtain ⟨k, n, rfl, rfl, hk⟩ := ex_nat2 h
      exact walk_yes A l c k n w hl hc (by omega) hk
    · exact walk_no A l c x y w hl hc hx hy (by omega) h

theorem own : ownKnob Try.prog.godebug = none := by kernel_rfl

set_option maxRecDepth 100000 in
theorem lifted (os : Os) (started : os.Started) (H : Type) (enc : TypeId × Value → H) :
    ReturnsInHanded {} Try.checked os 4 .any (Rows.bufPartsSpec.pre6 enc Try.prog Try.f4 Rows.bufPartsRow.domain false) (Rows.bufPartsSpec.post enc Try.prog Try.f4 false true false false) := by
  refine returnsInHanded_of_change (C := Try.checked) own started (by kernel_rfl) Try.func4
    (ChangeSpec.witness6 (enc := enc) (C := Try.checked) false ⟨#[], #[.slice none 0 0, .int .i64 0, .int .i64 0], []⟩ 8 (by kernel_rfl) (by kernel_rfl) (by kernel_rfl) (by kernel_rfl)) ?_
  intro W base args ds gs before hval0 hW hcnd _
  have hval : ∀ (j : Nat) t v, Try.f4.params[j]? = some t → args[j]? = some v → Value.okWide Try.prog W .any base t v := hval0
  have hW' := hW
  obtain ⟨p, q, hA0, hV, rfl, hfz, hnd⟩ := hW
  have hA : DataW.TrodAll enc Try.prog W 0 (fun _ => true) true Try.f4.params.toList args.toList ds p := hA0
  rw [Try.params4] at hA hval
  obtain ⟨v0, vs0, d0, ds0, p0, q0, hargs, rfl, rfl, h0, r0⟩ := trodAll_cons hA
  obtain ⟨v1, vs1, d1, ds1, p1, q1, rfl, rfl, rfl, h1, r1⟩ := trodAll_cons r0
  obtain ⟨v2, vs2, d2, ds2, p2, q2, rfl, rfl, rfl, h2, r2⟩ := trodAll_cons r1
  obtain ⟨rfl, rfl, rfl⟩ := trodAll_nil r2
  obtain rfl : args = #[v0, v1, v2] := by cases args; simp_all
  obtain ⟨rfl, rfl⟩ := trodVars_none hV
  obtain ⟨A0, l0, c0, rfl, hb0, hc0⟩ := open_bytes Try.underlying22 Try.underlying5 (by kernel_rfl) (hval 0 22 v0 rfl rfl) h0
  obtain ⟨a1, rfl, rfl, rfl, w1⟩ := open_int Try.underlying3 (hval 1 3 v1 rfl rfl) h1
  obtain ⟨a2, rfl, rfl, rfl, w2⟩ := open_int Try.underlying3 (hval 2 3 v2 rfl rfl) h2
  have hx : I64 a1 := by simp [Lit.wf, IntKind.min, IntKind.max, IntKind.signed, IntKind.bits] at w1; unfold I64; omega
  have hy : I64 a2 := by simp [Lit.wf, IntKind.min, IntKind.max, IntKind.signed, IntKind.bits] at w2; unfold I64; omega
  clear hA0 hval0
  simp only [List.append_nil] at hW'
  refine (walk A0 l0 c0 a1 a2 W hb0 hc0 hx hy).mono fun e W' ⟨he, hg⟩ => ?_
  subst he
  exact law_post (by kernel_rfl) rfl rfl (by kernel_rfl) (by kernel_rfl) Try.underlying4 hW' hg

/-- WHAT IS PROVED. -/
theorem proved : Rows.BufPartsSaid :=
  OpenClaim.holds_of_wide 4 Try.f4 rfl rfl rfl rfl rfl rfl rfl ⟨rfl, rfl, rfl, rfl, rfl⟩ rfl rfl rfl rfl rfl (by kernel_rfl) Try.func4 (by kernel_rfl)
    (of_decide_eq_true (by kernel_rfl)) (by unfold Func.isWrapper; first | (rw [if_pos (by decide +kernel)]; kernel_rfl) | (rw [if_neg (by decide +kernel)]; exact ⟨rfl, rfl⟩))
    (fun os started H enc _ => lifted os started H enc)

end Go.Proofs.Ytajkneekehkhbaa.LawParts
