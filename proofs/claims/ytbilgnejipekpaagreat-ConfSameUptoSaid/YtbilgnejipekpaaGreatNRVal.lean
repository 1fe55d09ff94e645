/-
  Layer 4: the reference's Valid. By the verifier.
-/
import Derived.Test.YtbilgnejipekpaaGreatNStr
import Derived.Test.YtbilgnejipekpaaGreatNMath
set_option linter.unusedVariables false
namespace Go.Proofs.YtbilgnejipekpaaGreat
open Go.RowKit

theorem nameB_long {l : List Nat} (h : 30 < l.length) : nameB l = false := by
  cases hn : nameB l with
  | false => rfl
  | true => have := ((nameB_iff l).1 hn).2.1; omega
theorem nameB_bad {l : List Nat} {k : Nat} (hk : k < l.length) (h : nameByte (l.getD k 0) = false) : nameB l = false := by
  cases hn : nameB l with
  | false => rfl
  | true => have := ((nameB_iff l).1 hn).2.2 k hk; rw [h] at this; cases this

theorem refvalid_ok (s : ByteArray) (l : List Nat) (hs : Str s l) (hm : l.length ≤ maxLen) (w : World) :
    Calls Tryz.prog 32 #[.string s] w fun e w' => e = .returned (.bool (nameB l)) ∧ w = w' := by
  have hsz := hs.size
  unfold maxLen at hm
  have hszi : (s.size : Int) = (l.length : Int) := by omega
  have HS := Lib.hid hs
  have HZ := Lib.hid hsz
  clear hs hsz hszi
  go_enter Tryz.func32, Tryz.ntmps32
  go_wp2_with fail
  go_loopw [3] (fun i wr => ∃ k : Nat, k ≤ l.length ∧ i = .int .i64 (k : Int) ∧ Hid (∀ j, j < k → nameByte (l.getD j 0) = true) ∧ wr = w) (fun i _ => l.length - (intOf i).toNat)
  case atStart => exact ⟨0, by omega, rfl, Lib.hid (fun j hj => absurd hj (by omega)), rfl⟩
  case round =>
    obtain ⟨k, hk, rfl, hh, rfl⟩ := hrel
    by_cases hlt : k < l.length
    · have hi := HS.out.index hlt
      have hks : (k : Int) < (s.size : Int) := by have := HZ.out; omega
      have HT : Hid (nameByte (l.getD k 0) = true → ∀ j, j < k + 1 → nameByte (l.getD j 0) = true) := Lib.hid fun h j hj => by
        rcases Nat.lt_or_ge j k with h1 | h1
        · exact hh.out j h1
        · obtain rfl : j = k := by omega
          exact h
      have HF : Hid (nameByte (l.getD k 0) = false → nameB l = false) := Lib.hid (nameB_bad hlt)
      generalize l.getD k 0 = x at *
      by_cases h1 : 32 ≤ x
      · have g1 : ¬ (x : Int) < 32 := by omega
        by_cases h2 : x ≤ 126
        · have g2 : ¬ (126 : Int) < (x : Int) := by omega
          have HX := Lib.hid (HT.out (by simp [nameByte, h1, h2]))
          clear HT HF h1 h2
          go_wp2_with fail
          go_roundw
          case rel => exact ⟨k + 1, by omega, by go_num, HX, by trivial⟩
          case measure => simp [intOf]; omega
        · have g2 : (126 : Int) < (x : Int) := by omega
          have HX := Lib.hid (HF.out (by simp [nameByte, h1, h2]))
          clear HT HF h1 h2
          go_wp2_with fail
          go_ret
          exact ⟨congrArg (fun r => Ending.returned (.bool r)) HX.out.symm, rfl⟩
      · have g1 : (x : Int) < 32 := by omega
        have HX := Lib.hid (HF.out (by simp [nameByte, h1]))
        clear HT HF h1
        go_wp2_with fail
        go_ret
        exact ⟨congrArg (fun r => Ending.returned (.bool r)) HX.out.symm, rfl⟩
    · have hks : ¬ (k : Int) < (s.size : Int) := by have := HZ.out; omega
      by_cases h0 : l.length = 0
      · have HR : Hid (nameB l = false) := Lib.hid (by simp [nameB, h0])
        have c1 : ¬ (1 : Int) ≤ (s.size : Int) := by have := HZ.out; omega
        clear h0 hlt
        go_wp2_with fail
        go_ret
        exact ⟨congrArg (fun r => Ending.returned (.bool r)) HR.out.symm, rfl⟩
      · have c1 : (1 : Int) ≤ (s.size : Int) := by have := HZ.out; omega
        by_cases h30 : 30 < l.length
        · have HR : Hid (nameB l = false) := Lib.hid (nameB_long h30)
          have c2 : ¬ (s.size : Int) ≤ 30 := by have := HZ.out; omega
          clear h0 h30 hlt
          go_wp2_with fail
          go_ret
          exact ⟨congrArg (fun r => Ending.returned (.bool r)) HR.out.symm, rfl⟩
        · have HR : Hid (nameB l = true) := Lib.hid ((nameB_iff l).2 ⟨by omega, by omega, fun j hj => hh.out j (by omega)⟩)
          have c2 : (s.size : Int) ≤ 30 := by have := HZ.out; omega
          clear h0 h30 hlt
          go_wp2_with fail
          go_ret
          exact ⟨congrArg (fun r => Ending.returned (.bool r)) HR.out.symm, rfl⟩

end Go.Proofs.YtbilgnejipekpaaGreat
