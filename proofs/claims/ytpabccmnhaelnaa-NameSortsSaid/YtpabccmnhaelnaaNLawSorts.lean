/-
  The law NameSorts returns true: for all strings, Sort returns them in strictly ascending order, and no other ones, and the argument is not changed. For every input: no condition. By the verifier.
-/
import Derived.Test.YtpabccmnhaelnaaNAlive
import Derived.Test.YtpabccmnhaelnaaNSort
import Derived.Test.YtpabccmnhaelnaaRows
set_option linter.unusedVariables false
namespace Go.Proofs.Ytpabccmnhaelnaa.LawSorts
open Go.RowKit Go.ChangeShapes Go.WideShapes Go.ChangeAt

theorem walk_long (A : Option Addr) (L c : Nat) (h1 : (100 : Int) < (L : Int)) (w : World) :
    Calls Try.prog 8 #[.slice A L c] w fun e w' => e = .returned (.bool true) ∧ Below w.heap.size w w' := by
  go_enter Try.func8, Try.ntmps8
  go_wp2_with fail
  refine (alive_ok _).mono ?_
  rintro e w1 ⟨rfl, hb1⟩
  go_wp2_with fail
  go_ret
  exact ⟨rfl, hb1⟩

/-- What the loops ask of the sorted strings. -/
structure Good (zs gs : List ByteArray) : Prop where
  sub : ∀ k, k < gs.length → Lib.containsS zs (gs.getD k ByteArray.empty) = true
  sup : ∀ k, k < zs.length → Lib.containsS gs (zs.getD k ByteArray.empty) = true
  up : ∀ k, k + 1 < gs.length → Op.bytesLess (gs.getD (k + 1) ByteArray.empty).toList (gs.getD k ByteArray.empty).toList = false ∧ ((gs.getD (k + 1) ByteArray.empty).toList == (gs.getD k ByteArray.empty).toList) = false
  len : gs.length ≤ zs.length

theorem getd_mem {l : List ByteArray} {k : Nat} (h : k < l.length) : l.getD k ByteArray.empty ∈ l := by
  have : l.getD k ByteArray.empty = l[k] := by simp [List.getD, h]
  rw [this]
  exact List.getElem_mem h

theorem good (zs : List ByteArray) : Good zs (sortZ zs) :=
  ⟨fun k hk => (Lib.containsS_iff _ _).2 ((sortZ_mem _ _).1 (getd_mem hk)), fun k hk => (Lib.containsS_iff _ _).2 ((sortZ_mem _ _).2 (getd_mem hk)), fun k hk => sortZ_up zs (Nat.lt_succ_self k) hk, sortZ_len zs⟩

set_option maxHeartbeats 4000000 in
set_option maxRecDepth 100000 in
theorem walk {W : World} (A : Option Addr) (zs : List ByteArray) (c : Nat) (hz : Sts W A zs) (hA : A = none → c = 0) (w : World) (hW : W = w) :
    Calls Try.prog 8 #[.slice A zs.length c] w fun e w' => e = .returned (.bool true) ∧ Below w.heap.size w w' := by
  subst hW
  by_cases h1 : (100 : Int) < (zs.length : Int)
  · exact walk_long A zs.length c h1 W
  · have hn : zs.length ≤ 100 := by omega
    have HG := Lib.hid (good zs)
    have HZ := Lib.hid hz
    have HO := Lib.hid (ownz_lit W)
    have hA1 : Below W.heap.size W (W.alloc (.cells #[] 9)) := (Below.refl _ _).alloc (Nat.le_refl _) _
    have HB := Lib.hid (hz.below (Nat.le_refl _) hA1)
    have HA1 := Lib.hid hA1
    have HAN := Lib.hid hA
    have HSZ : Hid (W.heap.size ≤ (W.alloc (.cells #[] 9)).heap.size) := Lib.hid (by simp)
    have HNL := Lib.hid hn
    generalize hLn : zs.length = L at hn h1 ⊢
    have HL := Lib.hid hLn
    clear hz hA1 hA hLn
    go_enter Try.func8, Try.ntmps8
    go_wp2_with ((with_reducible refine wpList_append_z rfl (.tmp 13) (.tmp 14) rfl W.heap.size (.slice (some ⟨W.heap.size, 0, none⟩) 0 0) [] rfl HO.out A zs L c HL.out rfl HB.out HAN.out (by have := HNL.out; have := HL.out; simp; omega) HSZ.out ?_); intro v1 w1 ho1 hg1; have hb1 := grown_belowz HA1.out HO.out hg1 HSZ.out; rw [List.nil_append] at ho1; obtain ⟨A1, c1, rfl, hy1, hn1⟩ := ho1.sts; rw [HL.out]; have HW1 := Lib.hid (And.intro hy1 hb1); clear ho1 hg1 hb1 hy1 hn1)
    have hcall := sort_ok A1 zs c1 w1 HW1.out.1 (by have := HNL.out; omega)
    rw [HL.out] at hcall
    refine hcall.mono ?_
    rintro e w2 ⟨G, d, rfl, hg2, hb2⟩
    have HW2 := Lib.hid (And.intro (HW1.out.1.below (Nat.le_refl _) hb2) (HW1.out.2.trans (hb2.mono HW1.out.2.size)))
    have HS2 := Lib.hid hg2
    obtain ⟨gs, hgs⟩ : ∃ gs, gs = sortZ zs := ⟨_, rfl⟩
    rw [← hgs] at HG HS2 ⊢
    have HZ2 := Lib.hid (HZ.out.below (Nat.le_refl _) HW2.out.2)
    clear hg2 hb2 hcall hgs HB HO HA1 HSZ HW1 HAN HZ
    generalize hMn : gs.length = M
    have HM := Lib.hid hMn
    have hM : M ≤ 100 := by have := HG.out.len; have := HL.out; omega
    clear hMn
    go_wp2_with fail
    go_loopw [20] (fun i wr => ∃ k : Nat, k ≤ M ∧ i = .int .i64 (k : Int) ∧ wr = w2) (fun i _ => M - (intOf i).toNat)
    case atStart => exact ⟨0, by omega, rfl, rfl⟩
    case round =>
      obtain ⟨k, hk, rfl, rfl⟩ := hrel
      by_cases hlt : k < M
      · have hki : (k : Int) < (M : Int) := by omega
        have HC := Lib.hid (contains_ok A zs c (gs.getD k ByteArray.empty) wr HZ2.out (by have := HNL.out; omega))
        have hsub := HG.out.sub k (by have := HM.out; omega)
        rw [hsub, HL.out] at HC
        clear hsub
        rcases Nat.eq_zero_or_pos k with h0 | h0
        · subst h0
          obtain ⟨b, o, rfl, -, hc0⟩ := HS2.out 0 (by have := HM.out; omega)
          replace hc0 : wr.cell? ⟨b, o, none⟩ = some (.string (gs.getD 0 ByteArray.empty)) := hc0
          generalize gs.getD 0 ByteArray.empty = z at *
          go_wp2_with fail
          refine HC.out.mono ?_
          rintro e w3 ⟨rfl, rfl⟩
          go_wp2_with fail
          go_roundw
          case rel => exact ⟨1, by omega, by go_num, by trivial⟩
          case measure => simp [intOf]; omega
        · obtain ⟨j, rfl⟩ : ∃ j, k = j + 1 := ⟨k - 1, by omega⟩
          obtain ⟨b, o, hG, -, hc1⟩ := HS2.out (j + 1) (by have := HM.out; omega)
          obtain ⟨b', o', hG', -, hc0⟩ := HS2.out j (by have := HM.out; omega)
          rw [hG] at hG'
          injection hG' with hG'
          injection hG' with e1 e2
          subst e1 e2 hG
          obtain ⟨u1, u2⟩ := HG.out.up j (by have := HM.out; omega)
          replace hc1 : wr.cell? ⟨b, o + (j + 1), none⟩ = some (.string (gs.getD (j + 1) ByteArray.empty)) := hc1
          replace hc0 : wr.cell? ⟨b, o + j, none⟩ = some (.string (gs.getD j ByteArray.empty)) := hc0
          generalize gs.getD (j + 1) ByteArray.empty = z at *
          generalize gs.getD j ByteArray.empty = y at *
          have ej : ((j + 1 : Nat) : Int) = (j : Int) + 1 := by omega
          rw [ej] at hki ⊢
          have hj0 : (0 : Int) ≤ (j : Int) := by omega
          clear ej h0
          go_wp2_with fail
          refine HC.out.mono ?_
          rintro e w3 ⟨rfl, rfl⟩
          go_wp2_with fail
          go_roundw
          case rel => exact ⟨j + 2, by omega, by go_num, by trivial⟩
          case measure => simp [intOf]; omega
      · have hki : ¬ (k : Int) < (M : Int) := by omega
        clear hlt
        go_wp2_with fail
        go_loopw [45] (fun i wr' => ∃ k : Nat, k ≤ L ∧ i = .int .i64 (k : Int) ∧ wr' = wr) (fun i _ => L - (intOf i).toNat)
        case atStart => exact ⟨0, by omega, rfl, rfl⟩
        case round =>
          obtain ⟨k2, hk2, rfl, rfl⟩ := hrel
          by_cases hlt2 : k2 < L
          · have hki2 : (k2 : Int) < (L : Int) := by omega
            have HC := Lib.hid (contains_ok G gs d (zs.getD k2 ByteArray.empty) wr HS2.out (by have := HM.out; omega))
            have hsup := HG.out.sup k2 (by have := HL.out; omega)
            rw [hsup, HM.out] at HC
            obtain ⟨b, o, rfl, -, hc0⟩ := HZ2.out k2 (by have := HL.out; omega)
            replace hc0 : wr.cell? ⟨b, o + k2, none⟩ = some (.string (zs.getD k2 ByteArray.empty)) := hc0
            generalize zs.getD k2 ByteArray.empty = z at *
            clear hsup
            go_wp2_with fail
            refine HC.out.mono ?_
            rintro e w3 ⟨rfl, rfl⟩
            go_wp2_with fail
            go_roundw
            case rel => exact ⟨k2 + 1, by omega, by go_num, by trivial⟩
            case measure => simp [intOf]; omega
          · have hki2 : ¬ (k2 : Int) < (L : Int) := by omega
            go_wp2_with fail
            refine (alive_ok _).mono ?_
            rintro e w4 ⟨rfl, hb4⟩
            have HE := Lib.hid (sequal_ok A1 A zs zs c1 c w4 (HW2.out.1.below (Nat.le_refl _) hb4) (HZ2.out.below (Nat.le_refl _) hb4) (by have := HNL.out; omega) (by have := HNL.out; omega))
            rw [decide_eq_true rfl, HL.out] at HE
            have HB4 := Lib.hid (HW2.out.2.trans (hb4.mono HW2.out.2.size))
            clear hb4
            go_wp2_with fail
            refine HE.out.mono ?_
            rintro e w5 ⟨rfl, hb5⟩
            have HB5 := Lib.hid (HB4.out.trans (hb5.mono HB4.out.size))
            clear hb5
            go_wp2_with fail
            go_ret
            exact ⟨rfl, HB5.out⟩

theorem own : ownKnob Try.prog.godebug = none := by kernel_rfl

set_option maxRecDepth 100000 in
theorem lifted (os : Os) (started : os.Started) (H : Type) (enc : TypeId × Value → H) :
    ReturnsInHanded {} Try.checked os 8 .any (Rows.nameSortsSpec.pre6 enc Try.prog Try.f8 Rows.nameSortsRow.domain false) (Rows.nameSortsSpec.post enc Try.prog Try.f8 false true false false) := by
  refine returnsInHanded_of_change (C := Try.checked) own started (by kernel_rfl) Try.func8
    (ChangeSpec.witness6 (enc := enc) (C := Try.checked) false ⟨#[], #[.slice none 0 0], []⟩ 8 (by kernel_rfl) (by kernel_rfl) (by kernel_rfl) (by kernel_rfl)) ?_
  intro W base args ds gs before hval0 hW hcnd _
  have hval : ∀ (j : Nat) t v, Try.f8.params[j]? = some t → args[j]? = some v → Value.okWide Try.prog W .any base t v := hval0
  have hW' := hW
  obtain ⟨p, q, hA0, hV, rfl, hfz, hnd⟩ := hW
  have hA : DataW.TrodAll enc Try.prog W 0 (fun _ => true) true Try.f8.params.toList args.toList ds p := hA0
  rw [Try.params8] at hA hval
  obtain ⟨v0, vs0, d0, ds0, p0, q0, hargs, rfl, rfl, h0, r0⟩ := trodAll_cons hA
  obtain ⟨rfl, rfl, rfl⟩ := trodAll_nil r0
  obtain rfl : args = #[v0] := by cases args; simp_all
  obtain ⟨rfl, rfl⟩ := trodVars_none hV
  obtain ⟨A0, z0, c0, rfl, hz0, hA0, hm0⟩ := open_sts Try.underlying38 Try.underlying9 (by kernel_rfl) (hval 0 38 v0 rfl rfl) h0
  clear hval0
  simp only [List.append_nil] at hW'
  refine (walk A0 z0 c0 hz0 hA0 W rfl).mono fun e W' ⟨he, hg⟩ => ?_
  subst he
  exact law_post (by kernel_rfl) rfl rfl (by kernel_rfl) (by kernel_rfl) Try.underlying4 hW' hg

/-- WHAT IS PROVED. -/
theorem proved : Rows.NameSortsSaid :=
  OpenClaim.holds_of_wide 8 Try.f8 rfl rfl rfl rfl rfl rfl rfl ⟨rfl, rfl, rfl, rfl, rfl⟩ rfl rfl rfl rfl rfl (by kernel_rfl) Try.func8 (by kernel_rfl)
    (of_decide_eq_true (by kernel_rfl)) (by unfold Func.isWrapper; first | (rw [if_pos (by decide +kernel)]; kernel_rfl) | (rw [if_neg (by decide +kernel)]; exact ⟨rfl, rfl⟩))
    (fun os started H enc _ => lifted os started H enc)

end Go.Proofs.Ytpabccmnhaelnaa.LawSorts
