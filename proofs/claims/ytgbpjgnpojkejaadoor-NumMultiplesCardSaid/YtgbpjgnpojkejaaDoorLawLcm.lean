/-
  NumMultiples: for all numbers, Lcm returns the number of the reference, which all of them divide, or false. No condition.
-/
import Derived.Test.YtgbpjgnpojkejaaDoorAlive
import Derived.Test.YtgbpjgnpojkejaaDoorLaid
import Derived.Test.YtgbpjgnpojkejaaDoorLaw
import Derived.Test.YtgbpjgnpojkejaaDoorCards
import Derived.Test.YtgbpjgnpojkejaaDoorTie
import Derived.SevenTiedAt
set_option linter.unusedVariables false
namespace Go.Proofs.YtgbpjgnpojkejaaDoor.LawLcm
open Go.RowKit Go.ChangeShapes Go.WideShapes Go.ChangeAt

theorem step_same (a z : Int) (ha : U a) (hz : U z) (hp : 0 < a) : multipleO a z = rstep a z := by
  unfold multipleO rstep
  by_cases h : z = 0
  · rw [if_pos h, if_pos h]
  · rw [if_neg h, if_neg h]
    have z0 := hz.lo
    obtain ⟨x, rfl⟩ := Int.eq_ofNat_of_zero_le ha.lo
    obtain ⟨y, rfl⟩ := Int.eq_ofNat_of_zero_le z0
    rw [Int.toNat_natCast, Int.toNat_natCast]
    have hg : 0 < Nat.gcd x y := Nat.gcd_pos_of_pos_left _ (by omega)
    obtain ⟨p, hp'⟩ := Nat.gcd_dvd_left x y
    obtain ⟨q, hq'⟩ := Nat.gcd_dvd_right x y
    generalize Nat.gcd x y = g at *
    have e1 : x / g = p := by rw [hp']; exact Nat.mul_div_cancel_left p hg
    have e2 : y / g = q := by rw [hq']; exact Nat.mul_div_cancel_left q hg
    have e3 : ((x : Int) / (g : Int)) = (p : Int) := by rw [← Int.natCast_ediv, e1]
    have e4 : ((y : Int) / (g : Int)) = (q : Int) := by rw [← Int.natCast_ediv, e2]
    have e5 : (p : Int) * (y : Int) = (x : Int) * (q : Int) := by
      rw [← Int.natCast_mul, ← Int.natCast_mul]
      congr 1
      rw [hp', hq', Nat.mul_comm g p, Nat.mul_assoc]
    have hqy : q ≤ y := by rw [← e2]; exact Nat.div_le_self _ _
    rw [e3, e4, mulO_pair _ _ ha ⟨by omega, by have := hz.hi; omega⟩]
    unfold timesO
    rw [e5]

theorem fold_same : ∀ (zs : List Int) (a : Int), U a → 0 < a → (∀ z ∈ zs, U z) → foldO rstep a zs = foldO multipleO a zs
  | [], _, _, _, _ => rfl
  | z :: zs, a, ha, hp, hu => by
    have hz := hu z (List.mem_cons_self ..)
    simp only [foldO]
    rw [step_same a z ha hz hp]
    cases h : rstep a z with
    | none => rfl
    | some c =>
      have hc := rstep_some a z c ha hz hp h
      exact fold_same zs c hc.1 hc.2 (fun x hx => hu x (List.mem_cons_of_mem _ hx))

theorem step_divides (a z c : Int) (ha : U a) (hz : U z) (hp : 0 < a) (h : multipleO a z = some c) : 0 < z ∧ c % a = 0 ∧ c % z = 0 := by
  unfold multipleO at h
  split at h
  · cases h
  · rename_i h0
    have z0 := hz.lo
    obtain ⟨rfl, -⟩ := timesO_some h
    refine ⟨by omega, ?_, Int.mul_emod_left _ _⟩
    obtain ⟨x, rfl⟩ := Int.eq_ofNat_of_zero_le ha.lo
    obtain ⟨y, rfl⟩ := Int.eq_ofNat_of_zero_le z0
    rw [Int.toNat_natCast, Int.toNat_natCast]
    have hg : 0 < Nat.gcd x y := Nat.gcd_pos_of_pos_left _ (by omega)
    obtain ⟨p, hp'⟩ := Nat.gcd_dvd_left x y
    obtain ⟨q, hq'⟩ := Nat.gcd_dvd_right x y
    generalize Nat.gcd x y = g at *
    have e1 : x / g = p := by rw [hp']; exact Nat.mul_div_cancel_left p hg
    have e5 : (x : Int) / (g : Int) * (y : Int) = (x : Int) * (q : Int) := by
      have e6 : p * y = x * q := by rw [hp', hq', Nat.mul_comm g p, Nat.mul_assoc]
      rw [← Int.natCast_ediv, e1, ← Int.natCast_mul, ← Int.natCast_mul, e6]
    rw [e5]
    exact Int.mul_emod_right _ _

theorem emod_trans {a b c : Int} (h1 : b % a = 0) (h2 : c % b = 0) : c % a = 0 := Int.emod_eq_zero_of_dvd (Int.dvd_trans (Int.dvd_of_emod_eq_zero h1) (Int.dvd_of_emod_eq_zero h2))

theorem fold_divides : ∀ (zs : List Int) (a n : Int), U a → 0 < a → (∀ z ∈ zs, U z) → foldO multipleO a zs = some n → U n ∧ n % a = 0 ∧ ∀ z ∈ zs, dividesB z n = true
  | [], a, n, ha, _, _, h => by
    simp only [foldO] at h
    injection h with h
    subst h
    exact ⟨ha, Int.emod_self, fun z hz => absurd hz (by simp)⟩
  | z :: zs, a, n, ha, hp, hu, h => by
    have hz := hu z (List.mem_cons_self ..)
    simp only [foldO] at h
    cases hs : multipleO a z with
    | none => rw [hs] at h; cases h
    | some c =>
      rw [hs] at h
      replace h : foldO multipleO c zs = some n := h
      have hc := rstep_some a z c ha hz hp (by rw [← step_same a z ha hz hp]; exact hs)
      obtain ⟨d1, d2, d3⟩ := step_divides a z c ha hz hp hs
      obtain ⟨i1, i2, i3⟩ := fold_divides zs c n hc.1 hc.2 (fun x hx => hu x (List.mem_cons_of_mem _ hx)) h
      refine ⟨i1, emod_trans d2 i2, fun x hx => ?_⟩
      rcases List.mem_cons.1 hx with rfl | hx
      · unfold dividesB
        rw [emod_trans d3 i2]
        simp [d1]
      · exact i3 x hx

theorem walk (A : Option Addr) (zs : List Int) (c : Nat) (w : World) (hn : Nums w A zs) (he : Env w) :
    Calls Tryd.prog 5 #[.slice A zs.length c] w fun e w' => e = .returned (.bool true) ∧ Below w.heap.size w w' := by
  have HN := Lib.hid hn
  have HE := Lib.hid he
  have hlen := hn.2.2
  unfold maxLen at hlen
  have hfs := fold_same zs 1 ⟨by omega, by omega⟩ (by omega) hn.2.1
  have hfd := fun n => fold_divides zs 1 n ⟨by omega, by omega⟩ (by omega) hn.2.1
  have HL : Hid (∀ W, Nums W A zs → Calls Tryd.prog 14 #[.slice A zs.length c] W fun e w' => FoldRes (foldO multipleO 1 zs) e ∧ Below W.heap.size W w') := Lib.hid fun W h => lcm_ok A zs c W h
  have HR : Hid (∀ W, Nums W A zs → Calls Tryd.prog 15 #[.slice A zs.length c] W fun e w' => FoldRes (foldO multipleO 1 zs) e ∧ Below W.heap.size W w') := Lib.hid fun W h => by rw [← hfs]; exact rlcm_ok A zs c W h
  generalize foldO multipleO 1 zs = r at *
  have HFD := Lib.hid hfd
  clear hn he hfs hfd
  by_cases h300 : 300 < zs.length
  · go_enter Tryd.func5, Tryd.ntmps5
    go_wp2_with fail
    refine (alive_ok w HE.out).mono ?_
    rintro e w1 ⟨rfl, hb1⟩
    go_wp2_with fail
    go_ret
    exact ⟨rfl, hb1⟩
  · rcases r with _ | n
    · go_enter Tryd.func5, Tryd.ntmps5
      go_wp2_with fail
      refine (HL.out _ HN.out).mono ?_
      rintro e w1 ⟨rfl, hb1⟩
      unfold opt
      go_wp2_with fail
      refine (HR.out _ (HN.out.below (Nat.le_refl _) hb1)).mono ?_
      rintro e w2 ⟨rfl, hb2⟩
      unfold opt
      have hB := hb1.trans (hb2.mono hb1.size)
      clear hb1 hb2
      go_wp2_with fail
      go_loopw [33] (fun i wr => ∃ k : Nat, k ≤ zs.length ∧ i = .int .i64 k ∧ Below w.heap.size w wr) (fun i _ => zs.length - (intOf i).toNat)
      case atStart => exact ⟨0, by omega, rfl, hB⟩
      case round =>
        obtain ⟨k, hk, rfl, hbw⟩ := hrel
        clear hB
        by_cases hlt : k < zs.length
        · obtain ⟨b', o, rfl, hb', hc⟩ := (HN.out.below (Nat.le_refl _) hbw).1 k hlt
          replace hc : wr.cell? ⟨b', o + k, none⟩ = some (.int .u64 (zs.getD k 0)) := hc
          have hcl : (k : Int) < zs.length := by omega
          generalize zs.getD k 0 = z at *
          go_wp2_with fail
          go_roundw
          case rel => exact ⟨k + 1, by omega, by go_num, hbw⟩
          case measure => simp [intOf]; omega
        · have hcl : ¬ ((k : Int) < zs.length) := by omega
          go_wp2_with fail
          refine (alive_ok _ (HE.out.below hbw)).mono ?_
          rintro e w4 ⟨rfl, hb4⟩
          have hB4 := hbw.trans (hb4.mono hbw.size)
          clear hb4 hbw
          go_wp2_with fail
          go_ret
          exact ⟨rfl, hB4⟩
    · have hu := (HFD.out n rfl).1
      have HD : Hid (∀ k (hk : k < zs.length) W, Calls Tryd.prog 16 #[.int .u64 (zs.getD k 0), .int .u64 n] W fun e w' => e = .returned (.bool true) ∧ W = w') := Lib.hid fun k hk W => by
        have h := divides_ok (zs.getD k 0) n W (HN.out.u k hk) hu
        have hin : zs.getD k 0 ∈ zs := by
          have : zs.getD k 0 = zs[k] := by simp [List.getD, hk]
          rw [this]; exact List.getElem_mem hk
        rwa [(HFD.out n rfl).2.2 _ hin] at h
      go_enter Tryd.func5, Tryd.ntmps5
      go_wp2_with fail
      refine (HL.out _ HN.out).mono ?_
      rintro e w1 ⟨rfl, hb1⟩
      unfold opt
      go_wp2_with fail
      refine (HR.out _ (HN.out.below (Nat.le_refl _) hb1)).mono ?_
      rintro e w2 ⟨rfl, hb2⟩
      unfold opt
      have hB := hb1.trans (hb2.mono hb1.size)
      clear hb1 hb2
      go_wp2_with fail
      go_loopw [33] (fun i wr => ∃ k : Nat, k ≤ zs.length ∧ i = .int .i64 k ∧ Below w.heap.size w wr) (fun i _ => zs.length - (intOf i).toNat)
      case atStart => exact ⟨0, by omega, rfl, hB⟩
      case round =>
        obtain ⟨k, hk, rfl, hbw⟩ := hrel
        clear hB
        by_cases hlt : k < zs.length
        · obtain ⟨b', o, rfl, hb', hc⟩ := (HN.out.below (Nat.le_refl _) hbw).1 k hlt
          replace hc : wr.cell? ⟨b', o + k, none⟩ = some (.int .u64 (zs.getD k 0)) := hc
          have hcl : (k : Int) < zs.length := by omega
          have HDk := Lib.hid (HD.out k hlt)
          generalize zs.getD k 0 = z at *
          go_wp2_with fail
          refine (HDk.out _).mono ?_
          rintro e w4 ⟨rfl, rfl⟩
          go_wp2_with fail
          go_roundw
          case rel => exact ⟨k + 1, by omega, by go_num, hbw⟩
          case measure => simp [intOf]; omega
        · have hcl : ¬ ((k : Int) < zs.length) := by omega
          go_wp2_with fail
          refine (alive_ok _ (HE.out.below hbw)).mono ?_
          rintro e w4 ⟨rfl, hb4⟩
          have hB4 := hbw.trans (hb4.mono hbw.size)
          clear hb4 hbw
          go_wp2_with fail
          go_ret
          exact ⟨rfl, hB4⟩

set_option maxRecDepth 100000 in
theorem lifted (os : Os) (started : os.Started) (H : Type) (enc : TypeId × Value → H) :
    ReturnsInHanded {} Tryd.checked os 5 .any (fun w args => (Rows.numMultiplesSpec.pre enc Tryd.prog Tryd.f5 [] false w args ∧ laidMetH Tryd.prog laid1 w) ∧ sizedMet enc Tryd.prog Tryd.f5 (OpenSpec.ofChange Rows.numMultiplesSpec) false w args)
      (Rows.numMultiplesSpec.post enc Tryd.prog Tryd.f5 false true false false) := by
  refine returnsInHanded_of_change_and (C := Tryd.checked) (X := fun w _ => laidMetH Tryd.prog laid1 w) (fun _ _ _ hh h => h.of_heap hh) own started (by kernel_rfl) Tryd.func5
    (ChangeSpec.witness_shaped (enc := enc) (C := Tryd.checked) (os := os) (X := fun w _ => laidMetH Tryd.prog laid1 w) false (World.doorLaid Tryd.prog 62 os) #[.slice none 0 0] 8 rfl (World.shaped_of_RefB (by kernel_rfl) (by kernel_rfl)) (by kernel_rfl) (by kernel_rfl) (by kernel_rfl) (door_met os _)) ?_
  intro W base args ds gs before hval0 hW _ _ hL _
  have hval : ∀ (j : Nat) t v, Tryd.f5.params[j]? = some t → args[j]? = some v → Value.okWide Tryd.prog W .any base t v := hval0
  have hW' := hW
  obtain ⟨p, q, hA0, hV, rfl, hfz, hnd⟩ := hW
  have hA : DataW.TrodAll enc Tryd.prog W 0 (fun _ => true) true Tryd.f5.params.toList args.toList ds p := hA0
  rw [Tryd.params5] at hA hval
  obtain ⟨v0, vs0, d0, ds0, p0, q0, hargs, rfl, rfl, h0, r0⟩ := trodAll_cons hA
  obtain ⟨rfl, rfl, rfl⟩ := trodAll_nil r0
  obtain rfl : args = #[v0] := by cases args; simp_all
  obtain ⟨rfl, rfl⟩ := trodVars_none hV
  obtain ⟨A0, zs0, c0, rfl, hn0, hc0⟩ := open_u64s Tryd.underlying22 Tryd.underlying24 (by kernel_rfl) (hval 0 22 v0 rfl rfl) h0
  clear hA0 hval0
  simp only [List.append_nil] at hW'
  refine (walk A0 zs0 c0 W hn0 (env_of_laid hL)).mono fun e W' ⟨he, hg⟩ => ?_
  subst he
  exact law_post (by kernel_rfl) rfl rfl (by kernel_rfl) (by kernel_rfl) Tryd.underlying4 hW' hg

theorem over : Rows.NumMultiplesSaid :=
  OpenClaim.holds_of_wide 5 Tryd.f5 rfl rfl rfl rfl rfl rfl rfl ⟨rfl, rfl, rfl, rfl, rfl⟩ rfl rfl rfl rfl rfl (by kernel_rfl) Tryd.func5 (by kernel_rfl)
    (of_decide_eq_true (by kernel_rfl)) (by unfold Func.isWrapper; first | (rw [if_pos (by decide +kernel)]; kernel_rfl) | (rw [if_neg (by decide +kernel)]; exact ⟨rfl, rfl⟩))
    (fun os started H enc _ => lifted os started H enc)

theorem proved : Rows.NumMultiplesCardSaid :=
  Claim7.holds_tied_plain_at .later [] Rows.numMultiplesCard.laidKinds true Rows.numMultiplesCard.stood.harness Rows.numMultiplesCard.stood.looks
    over (fun _ h => by cases h) (by kernel_rfl) (fun _ h => by cases h) numMultiples_row_tie rfl ⟨rfl, rfl⟩ (by kernel_rfl) rfl
    (fun f fn hf hfn => by
      obtain rfl : f = 5 := Option.some.inj ((show Tryd.prog.funcNamed "fenestra/fenestralaw01.NumMultiples" = some 5 by kernel_rfl).symm.trans hf) |>.symm
      obtain rfl : fn = Tryd.f5 := (Option.some.inj (Tryd.func5.symm.trans hfn)).symm
      exact ⟨by kernel_rfl, fun j t ht => by
        rw [Tryd.params5] at ht
        have hm : t ∈ [22] := by simpa using Array.mem_of_getElem? ht
        have hall : ([22].all fun u => !Tryd.prog.wantsStandIn u) = true := by kernel_rfl
        exact (show Tryd.prog.wantsStandIn t = false by simpa using List.all_eq_true.1 hall t hm)⟩)
    (by kernel_rfl)

end Go.Proofs.YtgbpjgnpojkejaaDoor.LawLcm
