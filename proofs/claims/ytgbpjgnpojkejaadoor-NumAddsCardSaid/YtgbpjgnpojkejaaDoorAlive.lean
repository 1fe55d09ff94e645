/-
  Layer 1 (num): the examples of the chapter hold. By the verifier.
-/
import Derived.Test.YtgbpjgnpojkejaaDoorParse
import Derived.Test.YtgbpjgnpojkejaaDoorNumF
set_option linter.unusedVariables false
namespace Go.Proofs.YtgbpjgnpojkejaaDoor
open Go.RowKit

theorem lcm46 : foldO multipleO 1 [4, 6] = some 12 := by decide
theorem align138 : alignO 13 8 = some 16 := by decide
theorem digs31 : digs 16 31 = [49, 102] := by
  rw [digs_big (by omega) (by omega), digs_small (by omega)]
  decide
theorem digs120 : digs 10 120 = [49, 50, 48] := by
  rw [digs_big (by omega) (by omega), digs_big (by omega) (by omega), digs_small (by omega)]
  decide
theorem parse1f : parseO [48, 120, 49, 102] = some 31 := by
  have h1 : Lib.hasPrefix [48, 120, 49, 102] [48, 120] = true := by decide
  have h2 : Lib.trimPrefix [48, 120, 49, 102] [48, 120] = [49, 102] := by decide
  have h3 : parse16 [49, 102] = some 31 := by decide
  unfold parseO
  rw [if_pos h1, h2, h3]
  show (if form16 31 = [48, 120, 49, 102] then some ((31 : Nat) : Int) else none) = some 31
  unfold form16
  rw [digs31, if_pos rfl]
  rfl

theorem alive_ok (w : World) (he : Env w) :
    Calls Tryd.prog 9 #[] w fun e w' => e = .returned (.bool true) ∧ Below w.heap.size w w' := by
  have HE := Lib.hid he
  have HL : Hid (∀ (W : World) A, Nums W A [4, 6] → Calls Tryd.prog 14 #[.slice A 2 2] W fun e w' => e = .returned (.tuple #[.int .u64 12, .bool true]) ∧ Below W.heap.size W w') :=
    Lib.hid fun W A hn => (lcm_ok A [4, 6] 2 W hn).mono fun _ _ ⟨h1, h2⟩ => ⟨by rw [h1, lcm46]; rfl, h2⟩
  have HA : Hid (∀ W : World, Calls Tryd.prog 18 #[.int .u64 13, .int .u64 8] W fun e w' => e = .returned (.tuple #[.int .u64 16, .bool true]) ∧ Below W.heap.size W w') :=
    Lib.hid fun W => (align_ok 13 8 W ⟨by omega, by omega⟩ ⟨by omega, by omega⟩).mono fun _ _ ⟨h1, h2⟩ => ⟨by rw [h1, align138]; rfl, h2⟩
  have HP : Hid (∀ W : World, Env W → Calls Tryd.prog 22 #[.string ⟨#[48, 120, 49, 102]⟩] W fun e w' => e = .returned (.tuple #[.int .u64 31, .bool true]) ∧ Below W.heap.size W w') :=
    Lib.hid fun W hW => (parse_ok [48, 120, 49, 102] (by simp) W hW).mono fun _ _ ⟨h1, h2⟩ => ⟨by rw [h1, parse1f]; rfl, h2⟩
  have HD : Hid (∀ W : World, Env W → Calls Tryd.prog 20 #[.int .u64 120] W fun e w' => e = .returned (.string ⟨#[49, 50, 48]⟩) ∧ Below W.heap.size W w') :=
    Lib.hid fun W hW => (decimal_ok 120 (by omega) W hW).mono fun _ _ ⟨h1, h2⟩ => ⟨by rw [h1, digs120], h2⟩
  clear he
  go_enter Tryd.func9, Tryd.ntmps9
  go_wp2_with fail
  refine (HL.out _ _ (by exact nums_two _ _ _ _ ⟨by omega, by omega⟩ ⟨by omega, by omega⟩)).mono ?_
  rintro e w1 ⟨rfl, hb1⟩
  have hB1 := ((Below.refl w.heap.size w).alloc (Nat.le_refl _) _).trans (hb1.mono (by simp))
  clear hb1
  go_wp2_with fail
  refine (HA.out _).mono ?_
  rintro e w2 ⟨rfl, hb2⟩
  have hB2 := hB1.trans (hb2.mono hB1.size)
  clear hb2 hB1
  go_wp2_with fail
  refine (HP.out _ (HE.out.below hB2)).mono ?_
  rintro e w3 ⟨rfl, hb3⟩
  have hB3 := hB2.trans (hb3.mono hB2.size)
  clear hb3 hB2
  go_wp2_with fail
  refine (HD.out _ (HE.out.below hB3)).mono ?_
  rintro e w4 ⟨rfl, hb4⟩
  have hB4 := hB3.trans (hb4.mono hB3.size)
  clear hb4 hB3
  go_wp2_with fail
  go_ret
  exact ⟨rfl, hB4⟩

end Go.Proofs.YtgbpjgnpojkejaaDoor
