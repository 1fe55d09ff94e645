/-
  The law NameUnpads returns true: for all bytes and lengths, Unpad returns the name of the reference, or false, there is at most one length for which it returns one, and the arguments are not changed. For every input: no condition. By the verifier.
-/
import Derived.Test.YtpabccmnhaelnaaNAlive
import Derived.Test.YtpabccmnhaelnaaNRun
import Derived.Test.YtpabccmnhaelnaaNArr
import Derived.Test.YtpabccmnhaelnaaRows
set_option linter.unusedVariables false
namespace Go.Proofs.Ytpabccmnhaelnaa.LawUnpads
open Go.RowKit Go.ChangeShapes Go.WideShapes Go.ChangeAt

theorem box_heap {W : World} {g : Nat} {b : List Nat} (h : Box30 W g b) {ab : Array Value} (hab : ab = arr30 b) : W.heap[g]? = some (.cells ab 32 (0, 0)) := by rw [hab]; exact h

set_option maxHeartbeats 2000000 in
set_option maxRecDepth 20000 in
theorem walk (b : List Nat) (hb : b.length = 30) (hbs : Bs b) (n : Int) (w : World) :
    Calls Try.prog 7 #[.agg (arr30 b), .int .i64 n] w fun e w' => e = .returned (.bool true) ∧ Below w.heap.size w w' := by
  obtain ⟨-, hz1⟩ := zero_of_info zero30
  have HU : Hid (∀ n w, Calls Try.prog 17 #[.agg (arr30 b), .int .i64 n] w fun e w' => UnpRes w (unpadN b n) (unpadY b n) e w') := Lib.hid fun n w => unpad_ok b hb hbs n w
  have HR : Hid (∀ n w, Calls Try.prog 18 #[.agg (arr30 b), .int .i64 n] w fun e w' => UnpRes w (unpadN b n) (unpadY b n) e w') := Lib.hid fun n w => refunpad_ok b hb hbs n w
  unfold UnpRes at HU HR
  have HC : Hid (∀ k, countTo (fun k => unpadY b (k : Int)) k ≤ 1) := Lib.hid fun k => (count_once (fun i j hi hj => unpadY_once hb hi hj) k).1
  have HBX := Lib.hid (Box30.new w b)
  have HA : Hid (Below w.heap.size w (w.alloc (.cells (arr30 b) 32))) := Lib.hid ((Below.refl _ _).alloc (Nat.le_refl _) _)
  have HI : Hid ((Try.prog.info? 32).map (·.size) = some (arr30 b).size) := Lib.hid (by rw [arr30_size]; exact hz1)
  have hsize : (arr30 b).size = 30 := arr30_size b
  obtain ⟨ab, hab⟩ : ∃ ab, ab = arr30 b := ⟨_, rfl⟩
  rw [← hab] at HU HR HBX HA HI hsize ⊢
  have HAB := Lib.hid hab
  clear hab hz1 hb hbs
  have HH := Lib.hid (box_heap HBX.out HAB.out)
  generalize hq : unpadN b n = q
  generalize hy : unpadY b n = y
  have HUn := Lib.hid (HU.out n)
  have HRn := Lib.hid (HR.out n)
  rw [hq, hy] at HUn HRn
  generalize strB q = s at *
  clear hq hy HR
  go_enter Try.func7, Try.ntmps7
  go_wp2_with ((with_reducible refine wpList_load_row rfl _ _ rfl w.heap.size rfl _ ab _ _ HH.out Try.underlying32 rfl HI.out ?_))
  refine (HUn.out _).mono ?_
  rintro e w1 ⟨rfl, hb1⟩
  have HB1 := Lib.hid (HA.out.trans (hb1.mono HA.out.size))
  have HX1 := Lib.hid (HBX.out.below hb1)
  clear hb1 HH HBX HUn
  have HH := Lib.hid (box_heap HX1.out HAB.out)
  go_wp2_with ((with_reducible refine wpList_load_row rfl _ _ rfl w.heap.size rfl _ ab _ _ HH.out Try.underlying32 rfl HI.out ?_))
  refine (HRn.out _).mono ?_
  rintro e w2 ⟨rfl, hb2⟩
  have HB2 := Lib.hid (HB1.out.trans (hb2.mono HB1.out.size))
  have HX2 := Lib.hid (HX1.out.below hb2)
  clear hb2 HH HX1 HB1 HRn
  go_wp2_with fail
  go_loopw [9, 25] (fun c i wr => ∃ k : Nat, k ≤ 31 ∧ i = .int .i64 (k : Int) ∧ c = .int .i64 ((countTo (fun k => unpadY b (k : Int)) k : Nat) : Int) ∧ Hid (Box30 wr w.heap.size b ∧ Below w.heap.size w wr)) (fun _ i _ => 31 - (intOf i).toNat)
  case atStart => exact ⟨0, by omega, rfl, rfl, Lib.hid ⟨HX2.out, HB2.out⟩⟩
  case round =>
    obtain ⟨k, hk, rfl, rfl, hx⟩ := hrel
    clear HX2 HB2
    by_cases hlt : k < 31
    · have hki : (k : Int) < 31 := by omega
      have HH := Lib.hid (box_heap hx.out.1 HAB.out)
      have HUk := Lib.hid (HU.out (k : Int))
      have hc1 := HC.out k
      have HST : Hid (countTo (fun k => unpadY b (k : Int)) (k + 1) = countTo (fun k => unpadY b (k : Int)) k + (if unpadY b (k : Int) then 1 else 0)) := Lib.hid rfl
      generalize countTo (fun k => unpadY b (k : Int)) k = c at *
      generalize unpadN b (k : Int) = qk at *
      generalize strB qk = sk at *
      cases hyk : unpadY b (k : Int) with
      | false =>
        rw [hyk] at HUk HST
        have HCC : Hid (countTo (fun k => unpadY b (k : Int)) (k + 1) = c) := Lib.hid (by have := HST.out; simpa using this)
        clear hyk HST
        go_wp2_with ((with_reducible refine wpList_load_row rfl _ _ rfl w.heap.size rfl _ ab _ _ HH.out Try.underlying32 rfl HI.out ?_))
        refine (HUk.out _).mono ?_
        rintro e w3 ⟨rfl, hb3⟩
        have HX3 := Lib.hid (And.intro (hx.out.1.below hb3) (hx.out.2.trans (hb3.mono hx.out.2.size)))
        clear hb3 HH
        go_wp2_with fail
        go_roundw
        case rel => exact ⟨k + 1, by omega, by go_num, by rw [HCC.out], HX3⟩
        case measure => simp [intOf]; omega
      | true =>
        rw [hyk] at HUk HST
        have HCC : Hid (countTo (fun k => unpadY b (k : Int)) (k + 1) = c + 1) := Lib.hid (by have := HST.out; simpa using this)
        clear hyk HST
        go_wp2_with ((with_reducible refine wpList_load_row rfl _ _ rfl w.heap.size rfl _ ab _ _ HH.out Try.underlying32 rfl HI.out ?_))
        refine (HUk.out _).mono ?_
        rintro e w3 ⟨rfl, hb3⟩
        have HX3 := Lib.hid (And.intro (hx.out.1.below hb3) (hx.out.2.trans (hb3.mono hx.out.2.size)))
        clear hb3 HH
        go_wp2_with fail
        go_roundw
        case rel => exact ⟨k + 1, by omega, by go_num, by rw [HCC.out]; go_num, HX3⟩
        case measure => simp [intOf]; omega
    · have hki : ¬ (k : Int) < 31 := by omega
      have hc1 := HC.out k
      generalize countTo (fun k => unpadY b (k : Int)) k = c at *
      have hc2 : (c : Int) ≤ 1 := by omega
      have HX3 := Lib.hid hx.out.2
      go_wp2_with fail
      refine (alive_ok _).mono ?_
      rintro e w4 ⟨rfl, hb4⟩
      have HB4 := Lib.hid (HX3.out.trans (hb4.mono HX3.out.size))
      clear hb4
      go_wp2_with fail
      go_ret
      exact ⟨rfl, HB4.out⟩

theorem own : ownKnob Try.prog.godebug = none := by kernel_rfl

set_option maxRecDepth 100000 in
theorem lifted (os : Os) (started : os.Started) (H : Type) (enc : TypeId × Value → H) :
    ReturnsInHanded {} Try.checked os 7 .any (Rows.nameUnpadsSpec.pre6 enc Try.prog Try.f7 Rows.nameUnpadsRow.domain false) (Rows.nameUnpadsSpec.post enc Try.prog Try.f7 false true false false) := by
  refine returnsInHanded_of_change (C := Try.checked) own started (by kernel_rfl) Try.func7
    (ChangeSpec.witness6 (enc := enc) (C := Try.checked) false ⟨#[], #[.agg (arr30 []), .int .i64 0], []⟩ 8 (by kernel_rfl) (by kernel_rfl) (by kernel_rfl) (by kernel_rfl)) ?_
  intro W base args ds gs before hval0 hW hcnd _
  have hval : ∀ (j : Nat) t v, Try.f7.params[j]? = some t → args[j]? = some v → Value.okWide Try.prog W .any base t v := hval0
  have hW' := hW
  obtain ⟨p, q, hA0, hV, rfl, hfz, hnd⟩ := hW
  have hA : DataW.TrodAll enc Try.prog W 0 (fun _ => true) true Try.f7.params.toList args.toList ds p := hA0
  rw [Try.params7] at hA hval
  obtain ⟨v0, vs0, d0, ds0, p0, q0, hargs, rfl, rfl, h0, r0⟩ := trodAll_cons hA
  obtain ⟨v1, vs1, d1, ds1, p1, q1, rfl, rfl, rfl, h1, r1⟩ := trodAll_cons r0
  obtain ⟨rfl, rfl, rfl⟩ := trodAll_nil r1
  obtain rfl : args = #[v0, v1] := by cases args; simp_all
  obtain ⟨rfl, rfl⟩ := trodVars_none hV
  obtain ⟨b0, hb0, hs0, rfl⟩ := open_arr30 Try.underlying32 Try.underlying5 (by kernel_rfl) (by kernel_rfl) (hval 0 32 v0 rfl rfl) h0
  obtain ⟨a1, rfl, rfl, rfl, w1⟩ := open_int Try.underlying3 (hval 1 3 v1 rfl rfl) h1
  clear hA0 hval0
  simp only [List.append_nil] at hW'
  refine (walk b0 hb0 hs0 a1 W).mono fun e W' ⟨he, hg⟩ => ?_
  subst he
  exact law_post (by kernel_rfl) rfl rfl (by kernel_rfl) (by kernel_rfl) Try.underlying4 hW' hg

/-- WHAT IS PROVED. -/
theorem proved : Rows.NameUnpadsSaid :=
  OpenClaim.holds_of_wide 7 Try.f7 rfl rfl rfl rfl rfl rfl rfl ⟨rfl, rfl, rfl, rfl, rfl⟩ rfl rfl rfl rfl rfl (by kernel_rfl) Try.func7 (by kernel_rfl)
    (of_decide_eq_true (by kernel_rfl)) (by unfold Func.isWrapper; first | (rw [if_pos (by decide +kernel)]; kernel_rfl) | (rw [if_neg (by decide +kernel)]; exact ⟨rfl, rfl⟩))
    (fun os started H enc _ => lifted os started H enc)

end Go.Proofs.Ytpabccmnhaelnaa.LawUnpads
