/-
  NumMultiplies: for all numbers, Mul returns the product of the reference, or false, in any order. No condition.
-/
import Derived.Test.YtgbpjgnpojkejaaDoorAlive
import Derived.Test.YtgbpjgnpojkejaaDoorLaid
import Derived.Test.YtgbpjgnpojkejaaDoorLaw
import Derived.Test.YtgbpjgnpojkejaaDoorCards
import Derived.Test.YtgbpjgnpojkejaaDoorTie
import Derived.SevenTiedAt
import Derived.OwnWalk
import Derived.Laws.AppendOwn
set_option linter.unusedVariables false
namespace Go.Proofs.YtgbpjgnpojkejaaDoor.LawMul
open Go.RowKit Go.ChangeShapes Go.WideShapes Go.ChangeAt

/-- The product. -/
def prodI : List Int → Int
  | [] => 1
  | z :: zs => z * prodI zs

theorem prodI_nonneg : ∀ (zs : List Int), (∀ z ∈ zs, U z) → 0 ≤ prodI zs
  | [], _ => by decide
  | z :: zs, h => Int.mul_nonneg (h z (List.mem_cons_self ..)).lo (prodI_nonneg zs fun x hx => h x (List.mem_cons_of_mem _ hx))

theorem prodI_pos : ∀ (zs : List Int), (∀ z ∈ zs, U z) → 0 ∉ zs → 0 < prodI zs
  | [], _, _ => by decide
  | z :: zs, h, h0 => by
    have hz : z ≠ 0 := fun e => h0 (by rw [e]; exact List.mem_cons_self ..)
    have := (h z (List.mem_cons_self ..)).lo
    exact Int.mul_pos (by omega) (prodI_pos zs (fun x hx => h x (List.mem_cons_of_mem _ hx)) (fun hx => h0 (List.mem_cons_of_mem _ hx)))

theorem prodI_zero : ∀ (zs : List Int), 0 ∈ zs → prodI zs = 0
  | z :: zs, h => by
    rcases List.mem_cons.1 h with h | h
    · simp [prodI, ← h]
    · simp [prodI, prodI_zero zs h]

theorem prodI_append : ∀ (xs ys : List Int), prodI (xs ++ ys) = prodI xs * prodI ys
  | [], ys => by simp [prodI]
  | x :: xs, ys => by simp only [List.cons_append, prodI, prodI_append xs ys, Int.mul_assoc]

theorem prodI_reverse : ∀ (zs : List Int), prodI zs.reverse = prodI zs
  | [] => rfl
  | z :: zs => by rw [List.reverse_cons, prodI_append, prodI_reverse zs]; simp [prodI, Int.mul_comm]

theorem fold_prod : ∀ (zs : List Int) (a : Int), 0 < a → a < 18446744073709551616 → (∀ z ∈ zs, U z) → 0 ∉ zs →
    foldO timesO a zs = if a * prodI zs < 18446744073709551616 then some (a * prodI zs) else none
  | [], a, _, h1, _, _ => by simp [foldO, prodI, h1]
  | z :: zs, a, h0, h1, hu, hz => by
    have hu' : ∀ x ∈ zs, U x := fun x hx => hu x (List.mem_cons_of_mem _ hx)
    have hz' : 0 ∉ zs := fun hx => hz (List.mem_cons_of_mem _ hx)
    have hzp : 0 < z := by
      have : z ≠ 0 := fun e => hz (by rw [e]; exact List.mem_cons_self ..)
      have := (hu z (List.mem_cons_self ..)).lo
      omega
    have hp := prodI_pos zs hu' hz'
    have haz := Int.mul_pos h0 hzp
    have e : a * prodI (z :: zs) = a * z * prodI zs := by rw [prodI, Int.mul_assoc]
    rw [e]
    simp only [foldO, timesO]
    by_cases h : a * z < 18446744073709551616
    · rw [if_pos h]
      exact fold_prod zs (a * z) haz h hu' hz'
    · rw [if_neg h]
      have : a * z * 1 ≤ a * z * prodI zs := Int.mul_le_mul_of_nonneg_left (by omega) (by omega)
      rw [if_neg (by omega)]

theorem mulO_prod (zs : List Int) (hu : ∀ z ∈ zs, U z) : mulO zs = if prodI zs < 18446744073709551616 then some (prodI zs) else none := by
  unfold mulO
  by_cases h : 0 ∈ zs
  · rw [if_pos h, prodI_zero zs h, if_pos (by omega)]
  · rw [if_neg h, fold_prod zs 1 (by omega) (by omega) hu h, Int.one_mul]

theorem mulO_reverse (zs : List Int) (hu : ∀ z ∈ zs, U z) : mulO zs.reverse = mulO zs := by
  rw [mulO_prod zs hu, mulO_prod zs.reverse (fun z hz => hu z (List.mem_reverse.1 hz)), prodI_reverse]

theorem info24 : (Tryd.prog.info? 24).map (fun i => (i.zero, i.size, i.bytes)) = some (some (.int .u64 0), 1, 8) := by kernel_rfl

theorem rev_snoc (zs : List Int) (k : Nat) (hk : k < zs.length) : zs.reverse.take (k + 1) = zs.reverse.take k ++ [zs.getD (zs.length - 1 - k) 0] := by
  have hk' : k < zs.reverse.length := by simpa using hk
  rw [List.take_succ_eq_append_getElem hk', List.getElem_reverse]
  simp [List.getD, show zs.length - 1 - k < zs.length by omega]

/-- A row of the call's own is a slice of numbers. -/
theorem nums_of_own {w : World} {base e : Nat} {v : Value} {ys : List Int} (hu : ∀ z ∈ ys, U z) (hl : ys.length ≤ 300) (h : w.ownsRow base e 1 v ys.length (ys.map (Value.int .u64))) :
    ∃ A c, v = .slice A ys.length c ∧ Nums w A ys := by
  have hlt : ys.length ≤ maxLen := by unfold maxLen; omega
  rcases h.2 with ⟨rfl, h0⟩ | ⟨g, cap, cur, rfl, hb, hh, hc1, hc2, hs, ht⟩
  · exact ⟨none, 0, by rw [h0], fun i hi => by omega, hu, hlt⟩
  · refine ⟨some ⟨g, 0, none⟩, cap, rfl, fun i hi => ⟨g, 0, rfl, ?_, ?_⟩, hu, hlt⟩
    · rcases Nat.lt_or_ge g w.heap.size with h1 | h1
      · exact h1
      · rw [Array.getElem?_eq_none h1] at hh; cases hh
    · rw [cell_of_row _ _ _ _ e (0, 0) hh]
      have h2 : (cur.toList.take (ys.length * 1))[i]? = some (.int .u64 (ys.getD i 0)) := by rw [ht]; simp [List.getD, hi]
      rw [List.getElem?_take, if_pos (by omega)] at h2
      simpa using h2

set_option maxHeartbeats 800000 in
theorem walk (A : Option Addr) (zs : List Int) (c : Nat) (w : World) (hn : Nums w A zs) (he : Env w) :
    Calls Tryd.prog 4 #[.slice A zs.length c] w fun e w' => e = .returned (.bool true) ∧ Below w.heap.size w w' := by
  have HN := Lib.hid hn
  have HE := Lib.hid he
  have hlen := hn.2.2
  unfold maxLen at hlen
  have HMR := Lib.hid (mulO_reverse zs hn.2.1)
  clear hn he
  obtain ⟨i0, hi, hz0, hz1, hz2⟩ := info_parts info24
  by_cases h300 : 300 < zs.length
  · go_enter Tryd.func4, Tryd.ntmps4
    go_wp2_with fail
    refine (alive_ok w HE.out).mono ?_
    rintro e w1 ⟨rfl, hb1⟩
    go_wp2_with fail
    go_ret
    exact ⟨rfl, hb1⟩
  · have h300' : zs.length ≤ 300 := by omega
    have hI := Lib.hid (And.intro hi (And.intro hz0 (And.intro hz1 hz2)))
    clear hi hz0 hz1 hz2
    go_enter Tryd.func4, Tryd.ntmps4
    go_wp2_with fail
    refine (mul_ok A zs c _ HN.out).mono ?_
    rintro e w1 ⟨rfl, hb1⟩
    generalize hr : mulO zs = r at *
    have HRR := Lib.hid hr
    clear hr
    obtain ⟨n, b, hrf⟩ : ∃ n b, opt r = .tuple #[.int .u64 n, .bool b] := by cases r <;> exact ⟨_, _, rfl⟩
    have HRF := Lib.hid hrf
    rw [hrf]
    clear hrf
    go_wp2_with fail
    refine (rmul_ok A zs c _ (HN.out.below (Nat.le_refl _) hb1)).mono ?_
    rintro e w2 ⟨rfl, hb2⟩
    rw [HRR.out, HRF.out]
    have hB := hb1.trans (hb2.mono hb1.size)
    clear hb1 hb2
    go_wp2_with fail
    go_loopw [7, 27] (fun v i wr => ∃ k : Nat, k ≤ zs.length ∧ i = .int .i64 k ∧ wr.ownsRow w.heap.size 24 1 v (zs.reverse.take k).length ((zs.reverse.take k).map (Value.int .u64)) ∧ Below w.heap.size w wr) (fun _ i _ => zs.length - (intOf i).toNat)
    case atStart => exact ⟨0, by omega, rfl, ⟨by simp, Or.inl ⟨rfl, by simp⟩⟩, hB⟩
    case round =>
      obtain ⟨k, hk, rfl, hown, hbw⟩ := hrel
      clear hB
      by_cases hlt : k < zs.length
      · obtain ⟨b', o, rfl, hb', hc⟩ := (HN.out.below (Nat.le_refl _) hbw).1 (zs.length - 1 - k) (by omega)
        replace hc : wr.cell? ⟨b', o + (zs.length - 1 - k), none⟩ = some (.int .u64 (zs.getD (zs.length - 1 - k) 0)) := hc
        have hs := rev_snoc zs k hlt
        have hcl : (k : Int) < zs.length := by omega
        have htk : (zs.reverse.take k).length = k := by simp; omega
        have hp : zs.length - 1 - k < zs.length := by omega
        generalize zs.getD (zs.length - 1 - k) 0 = z at *
        have HS := Lib.hid hs
        have HT := Lib.hid htk
        clear hs htk
        go_wp2_with (at_builtin; obtain ⟨hi, hz0, hz1, hz2⟩ := hI.out; refine wpList_append_own _ rfl _ _ 22 rfl w.heap.size 24 i0 (.int .u64 0) 1 8 Tryd.underlying22 hi hz0 hz1 hz2 rfl (by decide) _ _ _ rfl (hown.alloc _) ⟨wr.heap.size, 0, none⟩ 1 1 [.int .u64 z] rfl rfl ?c1 ?c2 ?c3 ?c4 ?c5 ?_)
        case c1 =>
          intro j u hj
          rw [Lib.add_plain, cell_of_row _ _ _ _ 24 (0, 0) (heap_alloc_new wr _)]
          cases j with
          | zero => simpa using hj
          | succ j => simp at hj
        case c2 =>
          intro u hu
          simp at hu
          subst hu
          rfl
        case c3 => rw [HT.out]; unfold maxLen; omega
        case c4 => rw [HT.out]; omega
        case c5 => simp; exact Nat.le_trans hbw.size (Nat.le_succ _)
        intro v' w3 hown' hgrow _
        have hbw' : Below w.heap.size w w3 := (hbw.alloc hbw.size _).grown hgrow (by simp; exact Nat.le_trans hbw.size (Nat.le_succ _)) (fun g hg => (hown.lt g hg).1)
        have hown2 : w3.ownsRow w.heap.size 24 1 v' (zs.reverse.take (k + 1)).length ((zs.reverse.take (k + 1)).map (Value.int .u64)) := by
          rw [HS.out, List.length_append, HT.out, List.map_append, List.map_take, List.map_reverse]
          exact hown'
        clear hown hown' hgrow hbw
        go_wp2
        go_roundw
        case rel => exact ⟨k + 1, by omega, by go_num, hown2, hbw'⟩
        case measure => simp [intOf]; omega
      · have hkk : k = zs.length := by omega
        have hcl : ¬ ((k : Int) < zs.length) := by omega
        have htk : zs.reverse.take k = zs.reverse := by rw [hkk]; exact List.take_of_length_le (by simp)
        rw [htk] at hown
        obtain ⟨A', c', rfl, hn'⟩ := nums_of_own (fun z hz => HN.out.2.1 z (List.mem_reverse.1 hz)) (by simpa using h300') hown
        have HN' : Hid (∀ W, Nums W A' zs.reverse → Calls Tryd.prog 12 #[.slice A' zs.length c'] W fun e w' => FoldRes r e ∧ Below W.heap.size W w') :=
          Lib.hid (fun W hN => by have := mul_ok A' zs.reverse c' W hN; rwa [List.length_reverse, HMR.out] at this)
        have HNN := Lib.hid hn'
        have hB2 := hbw
        clear hown hn' htk hkk hbw
        go_wp2_with fail
        refine (HN'.out _ HNN.out).mono ?_
        rintro e w3 ⟨rfl, hb3⟩
        rw [HRF.out]
        have hB3 := hB2.trans (hb3.mono hB2.size)
        clear hb3 hB2
        go_wp2_with fail
        refine (alive_ok w3 (HE.out.below hB3)).mono ?_
        rintro e w4 ⟨rfl, hb4⟩
        have hB4 := hB3.trans (hb4.mono hB3.size)
        clear hb4 hB3
        go_wp2_with fail
        go_ret
        exact ⟨rfl, hB4⟩

set_option maxRecDepth 100000 in
theorem lifted (os : Os) (started : os.Started) (H : Type) (enc : TypeId × Value → H) :
    ReturnsInHanded {} Tryd.checked os 4 .any (fun w args => (Rows.numMultipliesSpec.pre enc Tryd.prog Tryd.f4 [] false w args ∧ laidMetH Tryd.prog laid1 w) ∧ sizedMet enc Tryd.prog Tryd.f4 (OpenSpec.ofChange Rows.numMultipliesSpec) false w args)
      (Rows.numMultipliesSpec.post enc Tryd.prog Tryd.f4 false true false false) := by
  refine returnsInHanded_of_change_and (C := Tryd.checked) (X := fun w _ => laidMetH Tryd.prog laid1 w) (fun _ _ _ hh h => h.of_heap hh) own started (by kernel_rfl) Tryd.func4
    (ChangeSpec.witness_shaped (enc := enc) (C := Tryd.checked) (os := os) (X := fun w _ => laidMetH Tryd.prog laid1 w) false (World.doorLaid Tryd.prog 62 os) #[.slice none 0 0] 8 rfl (World.shaped_of_RefB (by kernel_rfl) (by kernel_rfl)) (by kernel_rfl) (by kernel_rfl) (by kernel_rfl) (door_met os _)) ?_
  intro W base args ds gs before hval0 hW _ _ hL _
  have hval : ∀ (j : Nat) t v, Tryd.f4.params[j]? = some t → args[j]? = some v → Value.okWide Tryd.prog W .any base t v := hval0
  have hW' := hW
  obtain ⟨p, q, hA0, hV, rfl, hfz, hnd⟩ := hW
  have hA : DataW.TrodAll enc Tryd.prog W 0 (fun _ => true) true Tryd.f4.params.toList args.toList ds p := hA0
  rw [Tryd.params4] at hA hval
  obtain ⟨v0, vs0, d0, ds0, p0, q0, hargs, rfl, rfl, h0, r0⟩ := trodAll_cons hA
  obtain ⟨rfl, rfl, rfl⟩ := trodAll_nil r0
  obtain rfl : args = #[v0] := by cases args; simp_all
  obtain ⟨rfl, rfl⟩ := trodVars_none hV
  obtain ⟨A0, zs0, c0, rfl, hn0, hc0⟩ := open_u64s Tryd.underlying22 Tryd.underlying24 (by kernel_rfl) (hval 0 22 v0 rfl rfl) h0
  clear hA0 hval0
  simp only [List.append_nil] at hW'
  refine (walk A0 zs0 c0 W hn0 (env_of_laid hL)).mono fun e W' ⟨he, hg⟩ => ?_
  subst he
  exact law_post (by kernel_rfl) rfl rfl (by kernel_rfl) (by kernel_rfl) Tryd.underlying4 hW' hg

theorem over : Rows.NumMultipliesSaid :=
  OpenClaim.holds_of_wide 4 Tryd.f4 rfl rfl rfl rfl rfl rfl rfl ⟨rfl, rfl, rfl, rfl, rfl⟩ rfl rfl rfl rfl rfl (by kernel_rfl) Tryd.func4 (by kernel_rfl)
    (of_decide_eq_true (by kernel_rfl)) (by unfold Func.isWrapper; first | (rw [if_pos (by decide +kernel)]; kernel_rfl) | (rw [if_neg (by decide +kernel)]; exact ⟨rfl, rfl⟩))
    (fun os started H enc _ => lifted os started H enc)

theorem proved : Rows.NumMultipliesCardSaid :=
  Claim7.holds_tied_plain_at .later [] Rows.numMultipliesCard.laidKinds true Rows.numMultipliesCard.stood.harness Rows.numMultipliesCard.stood.looks
    over (fun _ h => by cases h) (by kernel_rfl) (fun _ h => by cases h) numMultiplies_row_tie rfl ⟨rfl, rfl⟩ (by kernel_rfl) rfl
    (fun f fn hf hfn => by
      obtain rfl : f = 4 := Option.some.inj ((show Tryd.prog.funcNamed "fenestra/fenestralaw01.NumMultiplies" = some 4 by kernel_rfl).symm.trans hf) |>.symm
      obtain rfl : fn = Tryd.f4 := (Option.some.inj (Tryd.func4.symm.trans hfn)).symm
      exact ⟨by kernel_rfl, fun j t ht => by
        rw [Tryd.params4] at ht
        have hm : t ∈ [22] := by simpa using Array.mem_of_getElem? ht
        have hall : ([22].all fun u => !Tryd.prog.wantsStandIn u) = true := by kernel_rfl
        exact (show Tryd.prog.wantsStandIn t = false by simpa using List.all_eq_true.1 hall t hm)⟩)
    (by kernel_rfl)

end Go.Proofs.YtgbpjgnpojkejaaDoor.LawMul
