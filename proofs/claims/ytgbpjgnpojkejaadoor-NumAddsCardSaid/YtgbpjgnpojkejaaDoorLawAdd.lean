/-
  NumAdds: for all numbers, Add returns the sum of the reference, or false; so it does for the numbers in two parts. No condition.
-/
import Derived.Test.YtgbpjgnpojkejaaDoorAlive
import Derived.Test.YtgbpjgnpojkejaaDoorLaid
import Derived.Test.YtgbpjgnpojkejaaDoorLaw
import Derived.Test.YtgbpjgnpojkejaaDoorCards
import Derived.Test.YtgbpjgnpojkejaaDoorTie
import Derived.SevenTiedAt
set_option linter.unusedVariables false
namespace Go.Proofs.YtgbpjgnpojkejaaDoor.LawAdd
open Go.RowKit Go.ChangeShapes Go.WideShapes Go.ChangeAt

/-- The sum. -/
def sumI : List Int → Int
  | [] => 0
  | z :: zs => z + sumI zs

theorem sumI_nonneg : ∀ (zs : List Int), (∀ z ∈ zs, U z) → 0 ≤ sumI zs
  | [], _ => by decide
  | z :: zs, h => by
    have h1 := (h z (List.mem_cons_self ..)).lo
    have h2 := sumI_nonneg zs fun x hx => h x (List.mem_cons_of_mem _ hx)
    simp only [sumI]
    omega

theorem sumI_append : ∀ (xs ys : List Int), sumI (xs ++ ys) = sumI xs + sumI ys
  | [], ys => by simp [sumI]
  | x :: xs, ys => by simp only [List.cons_append, sumI, sumI_append xs ys]; omega

theorem fold_sum : ∀ (zs : List Int) (a : Int), 0 ≤ a → a < 18446744073709551616 → (∀ z ∈ zs, U z) →
    foldO plusO a zs = if a + sumI zs < 18446744073709551616 then some (a + sumI zs) else none
  | [], a, _, h1, _ => by simp [foldO, sumI, h1]
  | z :: zs, a, h0, h1, hu => by
    have hu' : ∀ x ∈ zs, U x := fun x hx => hu x (List.mem_cons_of_mem _ hx)
    have hz := (hu z (List.mem_cons_self ..)).lo
    have hp := sumI_nonneg zs hu'
    have e : a + sumI (z :: zs) = a + z + sumI zs := by simp only [sumI]; omega
    rw [e]
    simp only [foldO, plusO]
    by_cases h : a + z < 18446744073709551616
    · rw [if_pos h]
      exact fold_sum zs (a + z) (by omega) h hu'
    · rw [if_neg h, if_neg (by omega)]

theorem sum0 (zs : List Int) (hu : ∀ z ∈ zs, U z) : foldO plusO 0 zs = if sumI zs < 18446744073709551616 then some (sumI zs) else none := by
  rw [fold_sum zs 0 (by omega) (by omega) hu, Int.zero_add]

theorem nums_take {w : World} {A : Option Addr} {zs : List Int} (h : Nums w A zs) (m : Nat) (hm : m ≤ zs.length) : Nums w A (zs.take m) := by
  have hl : (zs.take m).length = m := by rw [List.length_take]; omega
  refine ⟨fun i hi => ?_, fun z hz => h.2.1 z (List.mem_of_mem_take hz), by have := h.2.2; omega⟩
  rw [hl] at hi
  obtain ⟨b, o, h1, h2, h3⟩ := h.1 i (by omega)
  refine ⟨b, o, h1, h2, ?_⟩
  rw [h3]
  simp [List.getD, hi]

theorem nums_drop {w : World} {ad : Addr} {zs : List Int} (h : Nums w (some ad) zs) (m : Nat) (hm : m ≤ zs.length) (B : Option Addr) (hB : m < zs.length → B = some (ad.add m)) : Nums w B (zs.drop m) := by
  refine ⟨fun i hi => ?_, fun z hz => h.2.1 z (List.mem_of_mem_drop hz), by have := h.2.2; rw [List.length_drop]; omega⟩
  rw [List.length_drop] at hi
  obtain ⟨b, o, h1, h2, h3⟩ := h.1 (m + i) (by omega)
  injection h1 with h1
  subst h1
  refine ⟨b, o + m, by rw [hB (by omega), Lib.add_plain], h2, ?_⟩
  rw [show o + m + i = o + (m + i) by omega, h3]
  simp [List.getD, List.getElem?_drop]

theorem opt_form (r : Option Int) (hu : ∀ n, r = some n → U n) : ∃ x b, opt r = .tuple #[.int .u64 x, .bool b] ∧ U x := by
  cases r with
  | none => exact ⟨0, false, rfl, ⟨by omega, by omega⟩⟩
  | some n => exact ⟨n, true, rfl, hu n rfl⟩

theorem sumI_split (zs : List Int) (m : Nat) : sumI (zs.take m) + sumI (zs.drop m) = sumI zs := by
  rw [← sumI_append, List.take_append_drop]

theorem add_sum (A : Option Addr) (zs : List Int) (n c : Nat) (hl : zs.length = n) (w : World) (hn : Nums w A zs) :
    Calls Tryd.prog 10 #[.slice A n c] w fun e w' => FoldRes (if sumI zs < 18446744073709551616 then some (sumI zs) else none) e ∧ Below w.heap.size w w' := by
  subst hl
  rw [← sum0 zs hn.2.1]
  exact add_ok A zs c w hn

theorem if_u (s : Int) (h0 : 0 ≤ s) : ∀ n, (if s < 18446744073709551616 then some s else none) = some n → U n := by
  intro n h
  split at h
  · injection h with h; subst h; exact ⟨h0, by assumption⟩
  · cases h

set_option maxHeartbeats 800000 in
theorem walk_some (ad : Addr) (zs : List Int) (c : Nat) (hc : zs.length ≤ c) (k : Int) (hk0 : 0 ≤ k) (hk1 : k ≤ 255) (w : World) (hn : Nums w (some ad) zs) (he : Env w) (h300 : zs.length ≤ 300) :
    Calls Tryd.prog 3 #[.slice (some ad) zs.length c, .int .u8 k] w fun e w' => e = .returned (.bool true) ∧ Below w.heap.size w w' := by
  have HN := Lib.hid hn
  have HE := Lib.hid he
  have HA : Hid (∀ W, Nums W (some ad) zs → Calls Tryd.prog 10 #[.slice (some ad) zs.length c] W fun e w' => FoldRes (foldO plusO 0 zs) e ∧ Below W.heap.size W w') := Lib.hid fun W h => add_ok _ zs c W h
  have HR : Hid (∀ W, Nums W (some ad) zs → Calls Tryd.prog 11 #[.slice (some ad) zs.length c] W fun e w' => FoldRes (foldO plusO 0 zs) e ∧ Below W.heap.size W w') := Lib.hid fun W h => radd_ok _ zs c W h
  have hs := sum0 zs hn.2.1
  rw [hs] at HA HR
  have HU := Lib.hid hn.2.1
  clear hn he hs
  have q0 : 0 ≤ k % ((zs.length : Int) + 1) := Int.emod_nonneg _ (by omega)
  have q1 : k % ((zs.length : Int) + 1) ≤ zs.length := by have := Int.emod_lt_of_pos k (b := (zs.length : Int) + 1) (by omega); omega
  by_cases hfit : sumI zs < 18446744073709551616
  · rw [if_pos hfit] at HA HR
    have HF := Lib.hid hfit
    clear hfit
    go_enter Tryd.func3, Tryd.ntmps3
    go_wp2_with fail
    refine (HA.out _ HN.out).mono ?_
    rintro e w1 ⟨rfl, hb1⟩
    unfold opt
    go_wp2_with fail
    refine (HR.out _ (HN.out.below (Nat.le_refl _) hb1)).mono ?_
    rintro e w2 ⟨rfl, hb2⟩
    unfold opt
    have hB := hb1.trans (hb2.mono hb1.size)
    clear hb1 hb2
    go_wp2_with fail
    generalize k % ((zs.length : Int) + 1) = q at *
    obtain ⟨m, rfl⟩ := Int.eq_ofNat_of_zero_le q0
    rw [Int.toNat_natCast]
    have hm : m ≤ zs.length := by omega
    have f0 := HF.out
    have f1 := sumI_split zs m
    have f2 := sumI_nonneg (zs.take m) (fun z hz => HU.out z (List.mem_of_mem_take hz))
    have f3 := sumI_nonneg (zs.drop m) (fun z hz => HU.out z (List.mem_of_mem_drop hz))
    have HT := add_sum (some ad) (zs.take m) m c (by rw [List.length_take]; omega) _ (nums_take (HN.out.below (Nat.le_refl _) hB) m hm)
    rw [if_pos (by omega)] at HT
    have HD : ∀ B c2 W, Nums W B (zs.drop m) → Calls Tryd.prog 10 #[.slice B (zs.length - m) c2] W fun e w' => FoldRes (some (sumI (zs.drop m))) e ∧ Below W.heap.size W w' := fun B c2 W hW => by
      have := add_sum B (zs.drop m) (zs.length - m) c2 (by rw [List.length_drop]) W hW
      rwa [if_pos (by omega)] at this
    have hu1 : U (sumI (zs.take m)) := ⟨f2, by omega⟩
    have hu2 : U (sumI (zs.drop m)) := ⟨f3, by omega⟩
    have HP : ∀ W A, Nums W A [sumI (zs.take m), sumI (zs.drop m)] → Calls Tryd.prog 10 #[.slice A 2 2] W fun e w' => FoldRes (some (sumI zs)) e ∧ Below W.heap.size W w' := fun W A h => by
      have := add2_ok A _ _ W hu1 h
      have e : plusO (sumI (zs.take m)) (sumI (zs.drop m)) = some (sumI zs) := by unfold plusO; rw [f1, if_pos f0]
      rwa [e] at this
    have HTT := Lib.hid HT
    have HDD := Lib.hid HD
    have HPP := Lib.hid HP
    clear f0 f1 f2 f3 HT HD HP
    generalize sumI (zs.take m) = s1 at *
    generalize sumI (zs.drop m) = s2 at *
    generalize sumI zs = s at *
    refine HTT.out.mono ?_
    rintro e w3 ⟨rfl, hb3⟩
    unfold opt
    have hB3 := hB.trans (hb3.mono hB.size)
    clear hb3 hB HTT
    have HNB := Lib.hid (HN.out.below (Nat.le_refl _) hB3)
    go_wp2_with fail
    all_goals
      refine (HDD.out _ _ _ (by first | exact nums_drop HNB.out m hm _ (fun _ => rfl) | exact nums_drop HNB.out m hm _ (fun h => by omega))).mono ?_
      rintro e w4 ⟨rfl, hb4⟩
      unfold opt
      have hB4 := hB3.trans (hb4.mono hB3.size)
      clear hb4
      go_wp2_with fail
      refine (HPP.out _ _ (by exact nums_two _ _ _ _ hu1 hu2)).mono ?_
      rintro e w5 ⟨rfl, hb5⟩
      unfold opt
      have hB5 := (hB4.alloc hB4.size _).trans (hb5.mono (by simp; exact Nat.le_trans hB4.size (Nat.le_succ _)))
      clear hb5
      go_wp2_with fail
      refine (alive_ok _ (HE.out.below hB5)).mono ?_
      rintro e w6 ⟨rfl, hb6⟩
      have hB6 := hB5.trans (hb6.mono hB5.size)
      clear hb6
      go_wp2_with fail
      go_ret
      exact ⟨rfl, hB6⟩
  · rw [if_neg hfit] at HA HR
    clear hfit
    go_enter Tryd.func3, Tryd.ntmps3
    go_wp2_with fail
    refine (HA.out _ HN.out).mono ?_
    rintro e w1 ⟨rfl, hb1⟩
    unfold opt
    go_wp2_with fail
    refine (HR.out _ (HN.out.below (Nat.le_refl _) hb1)).mono ?_
    rintro e w2 ⟨rfl, hb2⟩
    unfold opt
    have hB := hb1.trans (hb2.mono hb1.size)
    clear hb1 hb2
    go_wp2_with fail
    generalize k % ((zs.length : Int) + 1) = q at *
    obtain ⟨m, rfl⟩ := Int.eq_ofNat_of_zero_le q0
    rw [Int.toNat_natCast]
    have hm : m ≤ zs.length := by omega
    have f2 := sumI_nonneg (zs.take m) (fun z hz => HU.out z (List.mem_of_mem_take hz))
    have f3 := sumI_nonneg (zs.drop m) (fun z hz => HU.out z (List.mem_of_mem_drop hz))
    have HT := add_sum (some ad) (zs.take m) m c (by rw [List.length_take]; omega) _ (nums_take (HN.out.below (Nat.le_refl _) hB) m hm)
    have HD : ∀ B c2 W, Nums W B (zs.drop m) → Calls Tryd.prog 10 #[.slice B (zs.length - m) c2] W fun e w' => FoldRes (if sumI (zs.drop m) < 18446744073709551616 then some (sumI (zs.drop m)) else none) e ∧ Below W.heap.size W w' :=
      fun B c2 W hW => add_sum B (zs.drop m) (zs.length - m) c2 (by rw [List.length_drop]) W hW
    have g1 := if_u _ f2
    have g2 := if_u _ f3
    generalize (if sumI (zs.take m) < 18446744073709551616 then some (sumI (zs.take m)) else none) = r1 at *
    generalize (if sumI (zs.drop m) < 18446744073709551616 then some (sumI (zs.drop m)) else none) = r2 at *
    obtain ⟨s1, b1, e1, hu1⟩ := opt_form r1 g1
    obtain ⟨s2, b2, e2, hu2⟩ := opt_form r2 g2
    obtain ⟨s3, b3, e3⟩ : ∃ s3 b3, opt (plusO s1 s2) = .tuple #[.int .u64 s3, .bool b3] := by cases plusO s1 s2 <;> exact ⟨_, _, rfl⟩
    have HP : ∀ W A, Nums W A [s1, s2] → Calls Tryd.prog 10 #[.slice A 2 2] W fun e w' => FoldRes (plusO s1 s2) e ∧ Below W.heap.size W w' := fun W A h => add2_ok A _ _ W hu1 h
    have HTT := Lib.hid HT
    have HDD := Lib.hid HD
    have HPP := Lib.hid HP
    have E1 := Lib.hid e1
    have E2 := Lib.hid e2
    have E3 := Lib.hid e3
    clear f2 f3 HT HD HP g1 g2 e1 e2 e3
    refine HTT.out.mono ?_
    rintro e w3 ⟨rfl, hb3⟩
    rw [E1.out]
    have hB3 := hB.trans (hb3.mono hB.size)
    clear hb3 hB HTT
    have HNB := Lib.hid (HN.out.below (Nat.le_refl _) hB3)
    go_wp2_with fail
    all_goals
      refine (HDD.out _ _ _ (by first | exact nums_drop HNB.out m hm _ (fun _ => rfl) | exact nums_drop HNB.out m hm _ (fun h => by omega))).mono ?_
      rintro e w4 ⟨rfl, hb4⟩
      rw [E2.out]
      have hB4 := hB3.trans (hb4.mono hB3.size)
      clear hb4
      go_wp2_with fail
      refine (HPP.out _ _ (by exact nums_two _ _ _ _ hu1 hu2)).mono ?_
      rintro e w5 ⟨rfl, hb5⟩
      rw [E3.out]
      have hB5 := (hB4.alloc hB4.size _).trans (hb5.mono (by simp; exact Nat.le_trans hB4.size (Nat.le_succ _)))
      clear hb5
      go_wp2_with fail
      refine (alive_ok _ (HE.out.below hB5)).mono ?_
      rintro e w6 ⟨rfl, hb6⟩
      have hB6 := hB5.trans (hb6.mono hB5.size)
      clear hb6
      go_wp2_with fail
      go_ret
      exact ⟨rfl, hB6⟩

set_option maxHeartbeats 800000 in
theorem walk_nil (c : Nat) (k : Int) (hk0 : 0 ≤ k) (hk1 : k ≤ 255) (w : World) (he : Env w) :
    Calls Tryd.prog 3 #[.slice none 0 c, .int .u8 k] w fun e w' => e = .returned (.bool true) ∧ Below w.heap.size w w' := by
  have HE := Lib.hid he
  have hn : ∀ W, Nums W none [] := fun W => ⟨fun i hi => absurd hi (by simp), fun z hz => absurd hz (by simp), by simp⟩
  have HA : Hid (∀ W c, Calls Tryd.prog 10 #[.slice none 0 c] W fun e w' => e = .returned (.tuple #[.int .u64 0, .bool true]) ∧ Below W.heap.size W w') := Lib.hid fun W c => add_ok none [] c W (hn W)
  have HR : Hid (∀ W c, Calls Tryd.prog 11 #[.slice none 0 c] W fun e w' => e = .returned (.tuple #[.int .u64 0, .bool true]) ∧ Below W.heap.size W w') := Lib.hid fun W c => radd_ok none [] c W (hn W)
  have HP : Hid (∀ W A, Nums W A [0, 0] → Calls Tryd.prog 10 #[.slice A 2 2] W fun e w' => e = .returned (.tuple #[.int .u64 0, .bool true]) ∧ Below W.heap.size W w') := Lib.hid fun W A h => add2_ok A 0 0 W ⟨by omega, by omega⟩ h
  have hk : k % 1 = 0 := Int.emod_one k
  clear he hn
  go_enter Tryd.func3, Tryd.ntmps3
  go_wp2_with fail
  refine (HA.out _ _).mono ?_
  rintro e w1 ⟨rfl, hb1⟩
  go_wp2_with fail
  refine (HR.out _ _).mono ?_
  rintro e w2 ⟨rfl, hb2⟩
  have hB := hb1.trans (hb2.mono hb1.size)
  clear hb1 hb2
  go_wp2_with fail
  refine (HA.out _ _).mono ?_
  rintro e w3 ⟨rfl, hb3⟩
  have hB3 := hB.trans (hb3.mono hB.size)
  clear hb3 hB
  go_wp2_with fail
  all_goals
    refine (HA.out _ _).mono ?_
    rintro e w4 ⟨rfl, hb4⟩
    have hB4 := hB3.trans (hb4.mono hB3.size)
    clear hb4
    go_wp2_with fail
    refine (HP.out _ _ (by exact nums_two _ _ _ _ ⟨by omega, by omega⟩ ⟨by omega, by omega⟩)).mono ?_
    rintro e w5 ⟨rfl, hb5⟩
    have hB5 := (hB4.alloc hB4.size _).trans (hb5.mono (by simp; exact Nat.le_trans hB4.size (Nat.le_succ _)))
    clear hb5
    go_wp2_with fail
    refine (alive_ok _ (HE.out.below hB5)).mono ?_
    rintro e w6 ⟨rfl, hb6⟩
    have hB6 := hB5.trans (hb6.mono hB5.size)
    clear hb6
    go_wp2_with fail
    go_ret
    exact ⟨rfl, hB6⟩

theorem walk_long (A : Option Addr) (n c : Nat) (k : Int) (h300 : 300 < n) (w : World) (he : Env w) :
    Calls Tryd.prog 3 #[.slice A n c, .int .u8 k] w fun e w' => e = .returned (.bool true) ∧ Below w.heap.size w w' := by
  have HE := Lib.hid he
  clear he
  go_enter Tryd.func3, Tryd.ntmps3
  go_wp2_with fail
  refine (alive_ok w HE.out).mono ?_
  rintro e w1 ⟨rfl, hb1⟩
  go_wp2_with fail
  go_ret
  exact ⟨rfl, hb1⟩

theorem walk (A : Option Addr) (zs : List Int) (c : Nat) (hc : zs.length ≤ c) (k : Int) (hk0 : 0 ≤ k) (hk1 : k ≤ 255) (w : World) (hn : Nums w A zs) (he : Env w) :
    Calls Tryd.prog 3 #[.slice A zs.length c, .int .u8 k] w fun e w' => e = .returned (.bool true) ∧ Below w.heap.size w w' := by
  by_cases h : 300 < zs.length
  · exact walk_long A zs.length c k h w he
  · rcases A with _ | ad
    · have h0 : zs = [] := by
        rcases zs with _ | ⟨z, zs⟩
        · rfl
        · obtain ⟨b, o, h1, _⟩ := hn.1 0 (by simp)
          cases h1
      subst h0
      exact walk_nil c k hk0 hk1 w he
    · exact walk_some ad zs c hc k hk0 hk1 w hn he (by omega)

set_option maxRecDepth 100000 in
theorem lifted (os : Os) (started : os.Started) (H : Type) (enc : TypeId × Value → H) :
    ReturnsInHanded {} Tryd.checked os 3 .any (fun w args => (Rows.numAddsSpec.pre enc Tryd.prog Tryd.f3 [] false w args ∧ laidMetH Tryd.prog laid1 w) ∧ sizedMet enc Tryd.prog Tryd.f3 (OpenSpec.ofChange Rows.numAddsSpec) false w args)
      (Rows.numAddsSpec.post enc Tryd.prog Tryd.f3 false true false false) := by
  refine returnsInHanded_of_change_and (C := Tryd.checked) (X := fun w _ => laidMetH Tryd.prog laid1 w) (fun _ _ _ hh h => h.of_heap hh) own started (by kernel_rfl) Tryd.func3
    (ChangeSpec.witness_shaped (enc := enc) (C := Tryd.checked) (os := os) (X := fun w _ => laidMetH Tryd.prog laid1 w) false (World.doorLaid Tryd.prog 62 os) #[.slice none 0 0, .int .u8 0] 8 rfl (World.shaped_of_RefB (by kernel_rfl) (by kernel_rfl)) (by kernel_rfl) (by kernel_rfl) (by kernel_rfl) (door_met os _)) ?_
  intro W base args ds gs before hval0 hW _ _ hL _
  have hval : ∀ (j : Nat) t v, Tryd.f3.params[j]? = some t → args[j]? = some v → Value.okWide Tryd.prog W .any base t v := hval0
  have hW' := hW
  obtain ⟨p, q, hA0, hV, rfl, hfz, hnd⟩ := hW
  have hA : DataW.TrodAll enc Tryd.prog W 0 (fun _ => true) true Tryd.f3.params.toList args.toList ds p := hA0
  rw [Tryd.params3] at hA hval
  obtain ⟨v0, vs0, d0, ds0, p0, q0, hargs, rfl, rfl, h0, r0⟩ := trodAll_cons hA
  obtain ⟨v1, vs1, d1, ds1, p1, q1, rfl, rfl, rfl, h1, r1⟩ := trodAll_cons r0
  obtain ⟨rfl, rfl, rfl⟩ := trodAll_nil r1
  obtain rfl : args = #[v0, v1] := by cases args; simp_all
  obtain ⟨rfl, rfl⟩ := trodVars_none hV
  obtain ⟨A0, zs0, c0, rfl, hn0, hc0⟩ := open_u64s Tryd.underlying22 Tryd.underlying24 (by kernel_rfl) (hval 0 22 v0 rfl rfl) h0
  obtain ⟨a1, rfl, rfl, rfl, w1⟩ := open_int Tryd.underlying5 (hval 1 5 v1 rfl rfl) h1
  clear hA0 hval0
  simp only [List.append_nil] at hW'
  refine (walk A0 zs0 c0 hc0 a1 (bounds_u8 w1).1 (bounds_u8 w1).2 W hn0 (env_of_laid hL)).mono fun e W' ⟨he, hg⟩ => ?_
  subst he
  exact law_post (by kernel_rfl) rfl rfl (by kernel_rfl) (by kernel_rfl) Tryd.underlying4 hW' hg

theorem over : Rows.NumAddsSaid :=
  OpenClaim.holds_of_wide 3 Tryd.f3 rfl rfl rfl rfl rfl rfl rfl ⟨rfl, rfl, rfl, rfl, rfl⟩ rfl rfl rfl rfl rfl (by kernel_rfl) Tryd.func3 (by kernel_rfl)
    (of_decide_eq_true (by kernel_rfl)) (by unfold Func.isWrapper; first | (rw [if_pos (by decide +kernel)]; kernel_rfl) | (rw [if_neg (by decide +kernel)]; exact ⟨rfl, rfl⟩))
    (fun os started H enc _ => lifted os started H enc)

theorem proved : Rows.NumAddsCardSaid :=
  Claim7.holds_tied_plain_at .later [] Rows.numAddsCard.laidKinds true Rows.numAddsCard.stood.harness Rows.numAddsCard.stood.looks
    over (fun _ h => by cases h) (by kernel_rfl) (fun _ h => by cases h) numAdds_row_tie rfl ⟨rfl, rfl⟩ (by kernel_rfl) rfl
    (fun f fn hf hfn => by
      obtain rfl : f = 3 := Option.some.inj ((show Tryd.prog.funcNamed "fenestra/fenestralaw01.NumAdds" = some 3 by kernel_rfl).symm.trans hf) |>.symm
      obtain rfl : fn = Tryd.f3 := (Option.some.inj (Tryd.func3.symm.trans hfn)).symm
      exact ⟨by kernel_rfl, fun j t ht => by
        rw [Tryd.params3] at ht
        have hm : t ∈ [22, 5] := by simpa using Array.mem_of_getElem? ht
        have hall : ([22, 5].all fun u => !Tryd.prog.wantsStandIn u) = true := by kernel_rfl
        exact (show Tryd.prog.wantsStandIn t = false by simpa using List.all_eq_true.1 hall t hm)⟩)
    (by kernel_rfl)

end Go.Proofs.YtgbpjgnpojkejaaDoor.LawAdd
