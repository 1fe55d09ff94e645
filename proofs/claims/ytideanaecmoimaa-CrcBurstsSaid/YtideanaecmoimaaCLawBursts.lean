/-
  The law CrcBursts returns true: sealed bytes that are changed among 32 consecutive bits are not sealed. For every input: no condition. By the verifier.
-/
import Derived.Test.YtideanaecmoimaaCLaw
import Derived.Test.YtideanaecmoimaaRows
import Derived.Outline
import Derived.Deep.AppendLies
set_option linter.unusedVariables false
namespace Go.Proofs.Ytideanaecmoimaa.LawBursts
open Go.RowKit Go.ChangeShapes Go.WideShapes Go.ChangeAt

set_option maxHeartbeats 2000000 in
theorem walk (A : Option Addr) (l : List Nat) (c : Nat) (at_ change : Nat) (hat : at_ < 65536) (hch : change < 4294967296) (w : World) (hl : Bys w A l) :
    Calls Try.prog 8 #[.slice A l.length c, .int .u16 (at_ : Int), .int .u32 (change : Int)] w fun e w' => e = .returned (.bool true) ∧ Below w.heap.size w w' := by
  by_cases h1 : 300 < l.length
  · have hq : (300 : Int) < (l.length : Int) := by omega
    go_enter Try.func8, Try.ntmps8
    go_wp2_with fail
    refine (alive_ok _).mono ?_
    rintro e w1 ⟨rfl, hb1⟩
    go_wp2_with fail
    go_ret
    exact ⟨rfl, hb1⟩
  · by_cases h2 : change = 0
    · have hq : ¬ (300 : Int) < (l.length : Int) := by omega
      subst h2
      go_enter Try.func8, Try.ntmps8
      go_wp2_with fail
      refine (alive_ok _).mono ?_
      rintro e w1 ⟨rfl, hb1⟩
      go_wp2_with fail
      go_ret
      exact ⟨rfl, hb1⟩
    · have hq : ¬ (300 : Int) < (l.length : Int) := by omega
      have hz : ((change : Int) == 0) = false := by rw [beq_eq_false_iff_ne]; omega
      have hbS : Bs (l ++ le (crc l)) := hl.2.1.append (le_bs _)
      have hSl : (l ++ le (crc l)).length = l.length + 4 := by rw [List.length_append, le_len]
      have hsl := rseal_ok A l c w hl (by omega)
      have hfo : fo 4294967295 (l ++ le (crc l)) = rest := (sealed_iff l _ hl.2.1 (crc_lt hl.2.1)).2 rfl
      obtain ⟨S, hS⟩ : ∃ S, S = l ++ le (crc l) := ⟨_, rfl⟩
      rw [← hS] at hbS hSl hsl hfo
      have HSL := Lib.hid hsl
      have hn4 : 4 ≤ S.length := by omega
      have hn304 : S.length ≤ 304 := by omega
      have HFO := Lib.hid hfo
      have HBS := Lib.hid hbS
      clear hl hS hsl hfo hbS hSl
      go_enter Try.func8, Try.ntmps8
      go_wp2_with fail
      refine (HSL.out).mono ?_
      rintro e w1 ⟨v, rfl, ho, hb1⟩
      obtain ⟨g, cap, rfl, hg, hgl⟩ := World.ownsRow.form ho (by omega)
      have HO := Lib.hid ho
      clear ho
      go_wp2_with fail
      obtain ⟨f, hf, hf2⟩ : ∃ f : Nat, (at_ : Int) % (8 * (S.length : Int) - 31) = (f : Int) ∧ f + 31 < 8 * S.length := by
        have e1 : 0 ≤ (at_ : Int) % (8 * (S.length : Int) - 31) := Int.emod_nonneg _ (by omega)
        have e2 : (at_ : Int) % (8 * (S.length : Int) - 31) < 8 * (S.length : Int) - 31 := Int.emod_lt_of_pos _ (by omega)
        obtain ⟨f, hf⟩ := Int.eq_ofNat_of_zero_le e1
        exact ⟨f, hf, by omega⟩
      rw [hf]
      clear hf
      have HF2 := Lib.hid hf2
      go_loopw [27] (fun i wr => ∃ k : Nat, k ≤ 32 ∧ i = .int .i64 (k : Int) ∧ Hid (∃ T, T.length = S.length ∧ Bs T ∧ OwnB wr w.heap.size (.slice (some ⟨g, 0, none⟩) S.length cap) T ∧ fo 4294967295 T = rest ^^^ stk (8 * S.length - f) (change % 2 ^ k)) ∧ Below w.heap.size w wr) (fun i _ => 32 - (intOf i).toNat)
      case atStart => exact ⟨0, by omega, rfl, Lib.hid ⟨S, rfl, HBS.out, HO.out, by rw [HFO.out, Nat.pow_zero, Nat.mod_one, stk_zero, Nat.xor_zero]⟩, hb1⟩
      case round =>
        obtain ⟨k, hk, rfl, hT, hbw⟩ := hrel
        by_cases hlt : k < 32
        · have hkl : (k : Int) < 32 := by omega
          have hdv : ((change / 2 ^ k : Nat) : Int) = (change : Int) / 2 ^ k := by rw [Int.natCast_ediv, Int.natCast_pow]; rfl
          have hdl : change / 2 ^ k < 4294967296 := Nat.lt_of_le_of_lt (Nat.div_le_self _ _) hch
          have hand := and_one (change / 2 ^ k) hdl
          rw [hdv] at hand
          have hmod : change % 2 ^ (k + 1) = change % 2 ^ k + 2 ^ k * (change / 2 ^ k % 2) := by rw [Nat.pow_succ]; exact Nat.mod_mul
          by_cases hbit : change / 2 ^ k % 2 = 1
          · rw [hbit] at hand hmod
            have hb : (bits .and .u32 ((change : Int) / 2 ^ k) 1 == 1) = true := by rw [hand]; rfl
            obtain ⟨x, hx⟩ : ∃ x : Int, x = (f : Int) + (k : Int) := ⟨_, rfl⟩
            obtain ⟨y, hy⟩ : ∃ y : Int, y = x / 8 := ⟨_, rfl⟩
            obtain ⟨z, hzz⟩ : ∃ z : Int, z = x % 8 := ⟨_, rfl⟩
            have y0 : 0 ≤ y := by omega
            have y1 : y < (S.length : Int) := by omega
            have z0 : 0 ≤ z := by omega
            have z1 : z < 8 := by omega
            have x0 : 0 ≤ x := by omega
            have x1 : x < 2464 := by omega
            have HM := Lib.hid hmod
            have hw1 : IntKind.i64.wrap ((f : Int) + (k : Int)) = x := by rw [hx]; exact IntWalk.i64_in _ (by omega)
            have hw1' : (f : Int) + (k : Int) = x := hx.symm
            have hw2 : x.tdiv 8 = y := by rw [hy]; exact Int.tdiv_eq_ediv_of_nonneg x0
            have hw3 : x.tmod 8 = z := by rw [hzz]; exact Int.tmod_eq_emod_of_nonneg x0
            have HX := Lib.hid (And.intro hx (And.intro hy hzz))
            have hy' := hy.symm
            have hzz' := hzz.symm
            have hwx : IntKind.i64.wrap x = x := IntWalk.i64_in _ (by omega)
            have hwy : IntKind.i64.wrap y = y := IntWalk.i64_in _ (by omega)
            have hwz : IntKind.i64.wrap z = z := IntWalk.i64_in _ (by omega)
            obtain ⟨T, hTl, hTb, hTo, hTf⟩ := hT.out
            have hyT : y.toNat < T.length := by omega
            have htb := hTb.get y.toNat
            have hcell : wr.cell? ⟨g, y.toNat, none⟩ = some (V8 (T.getD y.toNat 0)) := by
              have ho' : wr.ownsRow w.heap.size 5 1 (.slice (some ⟨g, 0, none⟩) T.length cap) T.length (T.map V8) := by
                have := hTo
                unfold OwnB at this
                rwa [← hTl] at this
              rw [World.ownsRow.cellAt ho' y.toNat (by omega)]
              simp [List.getD, hyT]
            have hfree : wr.frozen? ⟨g, y.toNat, none⟩ = false := by
              have ho' : wr.ownsRow w.heap.size 5 1 (.slice (some ⟨g, 0, none⟩) T.length cap) T.length (T.map V8) := by
                have := hTo
                unfold OwnB at this
                rwa [← hTl] at this
              exact World.ownsRow.frozenAt ho' _
            obtain ⟨tv, htv⟩ : ∃ tv : Int, tv = (T.getD y.toNat 0 : Int) := ⟨_, rfl⟩
            have t0 : 0 ≤ tv := by omega
            have t1 : tv < 256 := by omega
            unfold V8 at hcell
            rw [← htv] at hcell
            have hxx : ∃ nv : Int, bits .xor .u8 tv (IntKind.u8.wrap (2 ^ z.toNat)) = nv ∧ nv = ((T.getD y.toNat 0 ^^^ 2 ^ z.toNat : Nat) : Int) := by
              refine ⟨_, rfl, ?_⟩
              have hz8 : z.toNat < 8 := by omega
              have h2 : 2 ^ z.toNat < 256 := Nat.pow_lt_pow_right (m := z.toNat) (n := 8) (by omega) hz8
              have e : IntKind.u8.wrap (2 ^ z.toNat) = ((2 ^ z.toNat : Nat) : Int) := by
                rw [IntKind.wrap_u8', Int.natCast_pow]
                have : ((2 ^ z.toNat : Nat) : Int) < 256 := by omega
                rw [Int.natCast_pow] at this
                exact Int.emod_eq_of_lt (Int.pow_nonneg (by omega)) this
              rw [e, htv, xor8 _ _ htb h2]
            obtain ⟨nv, hxx, hnv⟩ := hxx
            have hxx' : bits .xor .u8 tv (2 ^ z.toNat % 256) = nv := by rw [← hxx, IntKind.wrap_u8']
            have HNV := Lib.hid hnv
            clear hnv
            have HT := Lib.hid (And.intro hTl (And.intro hTb (And.intro hTo (And.intro hTf htv))))
            clear hand hmod hdv hdl hbit hx hy hzz hTl hTb hTo hTf htv htb hyT
            go_wp2_with fail
            go_region
            all_goals go_wp2_with fail
            all_goals go_roundw
            case measure => simp [intOf]; omega
            case rel =>
              obtain ⟨hTl, hTb, hTo, hTf, htv⟩ := HT.out
              obtain ⟨hx, hy, hzz⟩ := HX.out
              have hyp : y.toNat = (f + k) / 8 := by omega
              have hzp : z.toNat = (f + k) % 8 := by omega
              have ho' : wr.ownsRow w.heap.size 5 1 (.slice (some ⟨g, 0, none⟩) T.length cap) T.length (T.map V8) := by
                have := hTo
                unfold OwnB at this
                rwa [← hTl] at this
              have hst := (World.ownsRow.stored ho' y.toNat (.int .u8 nv)).1
              have hset : (T.map V8).set y.toNat (.int .u8 nv) = (T.set ((f + k) / 8) (T.getD ((f + k) / 8) 0 ^^^ 2 ^ ((f + k) % 8))).map V8 := by
                rw [List.map_set, HNV.out, hyp, hzp]
                rfl
              refine ⟨k + 1, by omega, by go_num, Lib.hid ⟨T.set ((f + k) / 8) (T.getD ((f + k) / 8) 0 ^^^ 2 ^ ((f + k) % 8)), by rw [List.length_set, hTl], ?_, ?_, ?_⟩, ?_⟩
              · intro q hq
                rcases List.mem_or_eq_of_mem_set hq with hq | rfl
                · exact hTb q hq
                · exact xor_lt8 (hTb.get _) (Nat.pow_lt_pow_right (m := (f + k) % 8) (n := 8) (by omega) (by omega))
              · unfold OwnB
                rw [List.length_set, ← hset, ← hTl]
                exact hst
              · rw [fo_flip _ _ _ (by omega), hTf, HM.out, Nat.mul_one, Nat.xor_assoc]
                congr 1
                have hr := Nat.mod_lt change (Nat.two_pow_pos k)
                have e := xor_apart k 1 (change % 2 ^ k) hr
                rw [Nat.mul_one] at e
                rw [show change % 2 ^ k + 2 ^ k = 2 ^ k ^^^ change % 2 ^ k by rw [e]; omega, stk_xor, hTl, ← stk_bit (8 * S.length - f) k (by omega), Nat.xor_comm]
                congr 2
                omega
              · first | exact hbw.drew.setCell (by simp; omega) _ | exact (hbw.setCell (by simp; omega) _).drew | exact hbw.setCell (by simp; omega) _
          · have hbit0 : change / 2 ^ k % 2 = 0 := by omega
            rw [hbit0] at hand hmod
            have hb : (bits .and .u32 ((change : Int) / 2 ^ k) 1 == 1) = false := by rw [hand]; rfl
            have HM := Lib.hid hmod
            clear hand hmod hdv hdl hbit hbit0
            go_wp2_with fail
            go_roundw
            case rel => exact ⟨k + 1, by omega, by go_num, Lib.hid (by rw [HM.out, Nat.mul_zero, Nat.add_zero]; exact hT.out), hbw⟩
            case measure => simp [intOf]; omega
        · have hk32 : k = 32 := by omega
          have hkl : ¬ (k : Int) < 32 := by omega
          obtain ⟨T, hTl, hTb, hTo, hTf⟩ := hT.out
          have hsl : sealedB T = false := by
            rcases hb : sealedB T with _ | _
            · rfl
            · exfalso
              obtain ⟨p, t, rfl, ht⟩ := parts4 (l := T) (by omega)
              rw [sealedB_append p t ht, decide_eq_true_eq] at hb
              have hbp : Bs p := fun q hq => hTb q (List.mem_append_left _ hq)
              rw [← hb] at hTf
              rw [(sealed_iff p _ hbp (crc_lt hbp)).2 rfl, hk32, Nat.mod_eq_of_lt (by omega)] at hTf
              have h0 := xor_eq_zero (a := stk (8 * S.length - f) change) (b := 0) (by
                rw [Nat.xor_zero]
                have := congrArg (rest ^^^ ·) hTf
                simpa [← Nat.xor_assoc] using this.symm)
              exact h2 (stk_eq_zero _ hch h0)
          obtain ⟨A2, c2, hv, hby, hcc, -⟩ := hTo.shape hTb (by unfold maxLen; omega)
          injection hv with hv1 hv2 hv3
          subst hv1 hv3
          have HSD : Hid (∀ W, Below wr.heap.size wr W → Calls Try.prog 18 #[.slice (some ⟨g, 0, none⟩) S.length cap] W (fun e w' => e = .returned (.bool false) ∧ Below W.heap.size W w')) := by
            refine Lib.hid fun W hW => ?_
            have := sealed_ok (some ⟨g, 0, none⟩) T cap W (hby.below (Nat.le_refl _) hW) hcc
            rwa [hsl, hTl] at this
          clear hTl hTb hTo hTf hsl hv2 hby hcc hk32
          go_wp2_with fail
          refine (alive_ok _).mono ?_
          rintro e w3 ⟨rfl, hb3⟩
          go_wp2_with fail
          refine (HSD.out w3 hb3).mono ?_
          rintro e w4 ⟨rfl, hb4⟩
          have hB3 := hbw.trans (hb3.mono hbw.size)
          have hB4 := hB3.trans (hb4.mono hB3.size)
          go_wp2_with fail
          go_ret
          exact ⟨rfl, hB4⟩

theorem own : ownKnob Try.prog.godebug = none := by kernel_rfl

set_option maxRecDepth 100000 in
theorem lifted (os : Os) (started : os.Started) (H : Type) (enc : TypeId × Value → H) :
    ReturnsInHanded {} Try.checked os 8 .any (Rows.crcBurstsSpec.pre6 enc Try.prog Try.f8 Rows.crcBurstsRow.domain false) (Rows.crcBurstsSpec.post enc Try.prog Try.f8 false true false false) := by
  refine returnsInHanded_of_change (C := Try.checked) own started (by kernel_rfl) Try.func8
    (ChangeSpec.witness6 (enc := enc) (C := Try.checked) false ⟨#[], #[.slice none 0 0, .int .u16 0, .int .u32 0], []⟩ 8 (by kernel_rfl) (by kernel_rfl) (by kernel_rfl) (by kernel_rfl)) ?_
  intro W base args ds gs before hval0 hW hcnd _
  have hval : ∀ (j : Nat) t v, Try.f8.params[j]? = some t → args[j]? = some v → Value.okWide Try.prog W .any base t v := hval0
  have hW' := hW
  obtain ⟨p, q, hA0, hV, rfl, hfz, hnd⟩ := hW
  have hA : DataW.TrodAll enc Try.prog W 0 (fun _ => true) true Try.f8.params.toList args.toList ds p := hA0
  rw [Try.params8] at hA hval
  obtain ⟨v0, vs0, d0, ds0, p0, q0, hargs, rfl, rfl, h0, r0⟩ := trodAll_cons hA
  obtain ⟨v1, vs1, d1, ds1, p1, q1, rfl, rfl, rfl, h1, r1⟩ := trodAll_cons r0
  obtain ⟨v2, vs2, d2, ds2, p2, q2, rfl, rfl, rfl, h2, r2⟩ := trodAll_cons r1
  obtain ⟨rfl, rfl, rfl⟩ := trodAll_nil r2
  obtain rfl : args = #[v0, v1, v2] := by cases args; simp_all
  obtain ⟨rfl, rfl⟩ := trodVars_none hV
  obtain ⟨A0, l0, c0, rfl, hb0, hc0⟩ := open_bytes Try.underlying24 Try.underlying5 (by kernel_rfl) (hval 0 24 v0 rfl rfl) h0
  obtain ⟨a1, rfl, rfl, rfl, w1⟩ := open_int Try.underlying40 (hval 1 40 v1 rfl rfl) h1
  obtain ⟨a2, rfl, rfl, rfl, w2⟩ := open_int Try.underlying25 (hval 2 25 v2 rfl rfl) h2
  obtain ⟨n1, rfl⟩ := Int.eq_ofNat_of_zero_le (show (0 : Int) ≤ a1 from by simp [Lit.wf, IntKind.min, IntKind.max, IntKind.signed, IntKind.bits] at w1; omega)
  obtain ⟨n2, rfl⟩ := Int.eq_ofNat_of_zero_le (show (0 : Int) ≤ a2 from by simp [Lit.wf, IntKind.min, IntKind.max, IntKind.signed, IntKind.bits] at w2; omega)
  clear hA0 hval0
  simp only [List.append_nil] at hW'
  refine (walk A0 l0 c0 n1 n2 (by simp [Lit.wf, IntKind.min, IntKind.max, IntKind.signed, IntKind.bits] at w1; omega) (by simp [Lit.wf, IntKind.min, IntKind.max, IntKind.signed, IntKind.bits] at w2; omega) W hb0).mono fun e W' ⟨he, hg⟩ => ?_
  subst he
  exact law_post (by kernel_rfl) rfl rfl (by kernel_rfl) (by kernel_rfl) Try.underlying4 hW' hg

/-- WHAT IS PROVED. -/
theorem proved : Rows.CrcBurstsSaid :=
  OpenClaim.holds_of_wide 8 Try.f8 rfl rfl rfl rfl rfl rfl rfl ⟨rfl, rfl, rfl, rfl, rfl⟩ rfl rfl rfl rfl rfl (by kernel_rfl) Try.func8 (by kernel_rfl)
    (of_decide_eq_true (by kernel_rfl)) (by unfold Func.isWrapper; first | (rw [if_pos (by decide +kernel)]; kernel_rfl) | (rw [if_neg (by decide +kernel)]; exact ⟨rfl, rfl⟩))
    (fun os started H enc _ => lifted os started H enc)

end Go.Proofs.Ytideanaecmoimaa.LawBursts
