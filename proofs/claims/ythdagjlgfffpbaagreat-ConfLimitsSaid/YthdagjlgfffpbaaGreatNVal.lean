/-
  Layer 4: printable and escaped bytes; name.Valid. By the verifier.
-/
import Derived.Test.YthdagjlgfffpbaaGreatNRVal
set_option linter.unusedVariables false
namespace Go.Proofs.YthdagjlgfffpbaaGreat
open Go.RowKit

theorem printable_ok (x : Nat) (w : World) : Calls Tryz.prog 62 #[.int .u8 (x : Int)] w fun e w' => e = .returned (.bool (nameByte x)) ∧ w = w' := by
  by_cases h1 : 32 ≤ x
  · by_cases h2 : x ≤ 126
    · have hr : nameByte x = true := by simp [nameByte, h1, h2]
      rw [hr]
      have h1 : (32 : Int) ≤ (x : Int) := by omega
      have h2 : (x : Int) ≤ 126 := by omega
      clear hr
      go_enter Tryz.func62, Tryz.ntmps62
      go_wp2_with fail
      go_ret
      exact ⟨rfl, rfl⟩
    · have hr : nameByte x = false := by simp [nameByte, h1, h2]
      rw [hr]
      have h1 : (32 : Int) ≤ (x : Int) := by omega
      have h2 : ¬ (x : Int) ≤ 126 := by omega
      clear hr
      go_enter Tryz.func62, Tryz.ntmps62
      go_wp2_with fail
      go_ret
      exact ⟨rfl, rfl⟩
  · have hr : nameByte x = false := by simp [nameByte, h1]
    rw [hr]
    have h1 : ¬ (32 : Int) ≤ (x : Int) := by omega
    clear hr
    go_enter Tryz.func62, Tryz.ntmps62
    go_wp2_with fail
    go_ret
    exact ⟨rfl, rfl⟩


theorem valid_ok (s : ByteArray) (l : List Nat) (hs : Str s l) (hm : l.length ≤ maxLen) (w : World) :
    Calls Tryz.prog 24 #[.string s] w fun e w' => e = .returned (.bool (nameB l)) ∧ w = w' := by
  have hsz := hs.size
  unfold maxLen at hm
  have hszi : (s.size : Int) = (l.length : Int) := by omega
  by_cases h0 : l.length = 0
  · have hr : nameB l = false := by simp [nameB, h0]
    rw [hr]
    have c1 : (s.size : Int) < 1 := by omega
    clear hr hsz hszi
    go_enter Tryz.func24, Tryz.ntmps24
    go_wp2_with fail
    go_ret
    exact ⟨rfl, rfl⟩
  · by_cases h30 : 30 < l.length
    · have hr := nameB_long h30
      rw [hr]
      have c1 : ¬ (s.size : Int) < 1 := by omega
      have c2 : (30 : Int) < (s.size : Int) := by omega
      clear hr hsz hszi
      go_enter Tryz.func24, Tryz.ntmps24
      go_wp2_with fail
      go_ret
      exact ⟨rfl, rfl⟩
    · have c1 : ¬ (s.size : Int) < 1 := by omega
      have c2 : ¬ (30 : Int) < (s.size : Int) := by omega
      have HS := Lib.hid hs
      have HZ := Lib.hid hsz
      have H0 := Lib.hid h0
      have H3 := Lib.hid h30
      clear hs hsz hszi h0 h30
      go_enter Tryz.func24, Tryz.ntmps24
      go_wp2_with fail
      go_loopw [14] (fun i wr => ∃ k : Nat, k ≤ l.length ∧ i = .int .i64 (k : Int) ∧ Hid (∀ j, j < k → nameByte (l.getD j 0) = true) ∧ wr = w) (fun i _ => l.length - (intOf i).toNat)
      case atStart => exact ⟨0, by omega, rfl, Lib.hid (fun j hj => absurd hj (by omega)), rfl⟩
      case round =>
        obtain ⟨k, hk, rfl, hh, rfl⟩ := hrel
        by_cases hlt : k < l.length
        · have hi := HS.out.index hlt
          have HP := Lib.hid (printable_ok (l.getD k 0))
          have hks : (k : Int) < (s.size : Int) := by have := HZ.out; omega
          have HT : Hid (nameByte (l.getD k 0) = true → ∀ j, j < k + 1 → nameByte (l.getD j 0) = true) := Lib.hid fun h j hj => by
            rcases Nat.lt_or_ge j k with h1 | h1
            · exact hh.out j h1
            · obtain rfl : j = k := by omega
              exact h
          have HF : Hid (nameByte (l.getD k 0) = false → nameB l = false) := Lib.hid (nameB_bad hlt)
          generalize l.getD k 0 = x at *
          cases hx : nameByte x with
          | true =>
            rw [hx] at HP
            have HX := Lib.hid (HT.out hx)
            clear hx HT HF
            go_wp2_with fail
            refine (HP.out _).mono ?_
            rintro e w1 ⟨rfl, rfl⟩
            go_wp2_with fail
            go_roundw
            case rel => exact ⟨k + 1, by omega, by go_num, HX, by trivial⟩
            case measure => simp [intOf]; omega
          | false =>
            rw [hx] at HP
            have HX := Lib.hid (HF.out hx)
            clear hx HT HF
            go_wp2_with fail
            refine (HP.out _).mono ?_
            rintro e w1 ⟨rfl, rfl⟩
            go_wp2_with fail
            go_ret
            exact ⟨congrArg (fun r => Ending.returned (.bool r)) HX.out.symm, rfl⟩
        · have hks : ¬ (k : Int) < (s.size : Int) := by have := HZ.out; omega
          have HR : Hid (nameB l = true) := Lib.hid ((nameB_iff l).2 ⟨by have := H0.out; omega, by have := H3.out; omega, fun j hj => hh.out j (by omega)⟩)
          go_wp2_with fail
          go_ret
          exact ⟨congrArg (fun r => Ending.returned (.bool r)) HR.out.symm, rfl⟩

end Go.Proofs.YthdagjlgfffpbaaGreat
