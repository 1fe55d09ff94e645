/-
  Layer 4: the example of the chapter holds. By the verifier.
-/
import Derived.Test.YtpabccmnhaelnaaNScn2
set_option linter.unusedVariables false
namespace Go.Proofs.Ytpabccmnhaelnaa
open Go.RowKit

theorem str_lit (l : List Nat) (b : Bool) (hb : l.all (fun x => decide (x < 256)) = b) (h : b = true) (s : ByteArray) (hs : s = strB l) : Str s l := ⟨hs, fun x hx => by
  rw [← hb] at h
  have := List.all_eq_true.1 h x hx
  simpa using this⟩

theorem ex_text : Str ⟨#[120, 34, 97, 92, 34, 98, 34, 59]⟩ [120, 34, 97, 92, 34, 98, 34, 59] := str_lit _ _ rfl rfl _ (by kernel_rfl)
theorem ex_name : Str ⟨#[97, 34, 98]⟩ [97, 34, 98] := str_lit _ _ rfl rfl _ (by kernel_rfl)
theorem ex_form : Str ⟨#[34, 97, 92, 34, 98, 34]⟩ [34, 97, 92, 34, 98, 34] := str_lit _ _ rfl rfl _ (by kernel_rfl)
theorem ex_ab : Str ⟨#[97, 32, 98]⟩ [97, 32, 98] := str_lit _ _ rfl rfl _ (by kernel_rfl)

set_option maxHeartbeats 1000000 in
theorem alive_ok (w : World) :
    Calls Try.prog 9 #[] w fun e w' => e = .returned (.bool true) ∧ Below w.heap.size w w' := by
  have HC : Hid (∀ w, Calls Try.prog 14 #[.string ⟨#[120, 34, 97, 92, 34, 98, 34, 59]⟩, .int .i64 1] w fun e w' => e = .returned (.tuple #[.string ⟨#[97, 34, 98]⟩, .int .i64 7, .int .i64 0]) ∧ Below w.heap.size w w') := Lib.hid fun w => by
    refine (scan_ok _ _ ex_text (by unfold maxLen; decide) 1 w).mono fun e w' ⟨he, hw⟩ => ⟨?_, hw⟩
    have e1 : scanV [120, 34, 97, 92, 34, 98, 34, 59] 1 = ([97, 34, 98], 7, 0) := by decide +kernel
    rw [e1] at he
    rw [ex_name.1]
    exact he
  have HQ : Hid (∀ w, Calls Try.prog 12 #[.string ⟨#[97, 34, 98]⟩] w fun e w' => e = .returned (.string ⟨#[34, 97, 92, 34, 98, 34]⟩) ∧ Below w.heap.size w w') := Lib.hid fun w => by
    refine (quote_ok _ _ ex_name (by unfold maxLen; decide) w).mono fun e w' ⟨he, hw⟩ => ⟨?_, hw⟩
    have e1 : quoteV [97, 34, 98] = [34, 97, 92, 34, 98, 34] := by decide +kernel
    rw [e1] at he
    rw [ex_form.1]
    exact he
  have HV : Hid (∀ w, Calls Try.prog 10 #[.string ⟨#[97, 32, 98]⟩] w fun e w' => e = .returned (.bool true) ∧ w = w') := Lib.hid fun w => by
    have e1 : nameB [97, 32, 98] = true := by decide +kernel
    have := valid_ok _ _ ex_ab (by unfold maxLen; decide) w
    rw [e1] at this
    exact this
  go_enter Try.func9, Try.ntmps9
  go_wp2_with fail
  refine (HC.out _).mono ?_
  rintro e w1 ⟨rfl, hb1⟩
  go_wp2_with fail
  refine (HQ.out _).mono ?_
  rintro e w2 ⟨rfl, hb2⟩
  have hB2 := hb1.trans (hb2.mono hb1.size)
  clear hb1 hb2
  go_wp2_with fail
  refine (HV.out _).mono ?_
  rintro e w3 ⟨rfl, rfl⟩
  go_wp2_with fail
  go_ret
  exact ⟨rfl, hB2⟩

end Go.Proofs.Ytpabccmnhaelnaa
