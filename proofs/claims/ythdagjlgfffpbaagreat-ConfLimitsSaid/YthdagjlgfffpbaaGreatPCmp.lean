/-
  Layer 5 (conf): the program's comparisons: cmp.Compare at numbers and strings, compareBools, cmp.Or of numbers. By the verifier.
-/
import Derived.Test.YthdagjlgfffpbaaGreatGCfg
import Derived.Deep.LoopGhost
set_option linter.unusedVariables false
namespace Go.Proofs.YthdagjlgfffpbaaGreat
open Go.RowKit

/-- -1, 0 or 1. -/
def cmpI (x y : Int) : Int := if x < y then -1 else if y < x then 1 else 0
def cmpS (x y : ByteArray) : Int := if Op.bytesLess x.toList y.toList then -1 else if x.toList == y.toList then 0 else 1
def cmpB (x y : Bool) : Int := if x = y then 0 else if y then -1 else 1
/-- The first that is not 0. -/
def orI : List Int → Int
  | [] => 0
  | x :: r => if x = 0 then orI r else x

theorem nan_u16 (x : Int) (w : World) : Calls Tryz.prog 105 #[.int .u16 x] w fun e w' => e = .returned (.bool false) ∧ w = w' := by
  go_enter Tryz.func105, Tryz.ntmps105
  go_wp2_with fail
  go_ret
  exact ⟨by simp, rfl⟩

theorem cmp_u16 (x y : Int) (w : World) : Calls Tryz.prog 76 #[.int .u16 x, .int .u16 y] w fun e w' => e = .returned (.int .i64 (cmpI x y)) ∧ w = w' := by
  have HN := Lib.hid (fun x w => nan_u16 x w)
  unfold cmpI
  go_enter Tryz.func76, Tryz.ntmps76
  by_cases h1 : x < y
  · rw [if_pos h1]
    go_wp2_with (go_at_call 105; refine (HN.out _ _).mono ?_; rintro e w' ⟨rfl, rfl⟩)
    go_ret
    exact ⟨rfl, rfl⟩
  · rw [if_neg h1]
    by_cases h2 : y < x
    · rw [if_pos h2]
      go_wp2_with (go_at_call 105; refine (HN.out _ _).mono ?_; rintro e w' ⟨rfl, rfl⟩)
      go_ret
      exact ⟨rfl, rfl⟩
    · rw [if_neg h2]
      go_wp2_with (go_at_call 105; refine (HN.out _ _).mono ?_; rintro e w' ⟨rfl, rfl⟩)
      go_ret
      exact ⟨rfl, rfl⟩

theorem nan_u64 (x : Int) (w : World) : Calls Tryz.prog 107 #[.int .u64 x] w fun e w' => e = .returned (.bool false) ∧ w = w' := by
  go_enter Tryz.func107, Tryz.ntmps107
  go_wp2_with fail
  go_ret
  exact ⟨by simp, rfl⟩

theorem cmp_u64 (x y : Int) (w : World) : Calls Tryz.prog 78 #[.int .u64 x, .int .u64 y] w fun e w' => e = .returned (.int .i64 (cmpI x y)) ∧ w = w' := by
  have HN := Lib.hid (fun x w => nan_u64 x w)
  unfold cmpI
  go_enter Tryz.func78, Tryz.ntmps78
  by_cases h1 : x < y
  · rw [if_pos h1]
    go_wp2_with (go_at_call 107; refine (HN.out _ _).mono ?_; rintro e w' ⟨rfl, rfl⟩)
    go_ret
    exact ⟨rfl, rfl⟩
  · rw [if_neg h1]
    by_cases h2 : y < x
    · rw [if_pos h2]
      go_wp2_with (go_at_call 107; refine (HN.out _ _).mono ?_; rintro e w' ⟨rfl, rfl⟩)
      go_ret
      exact ⟨rfl, rfl⟩
    · rw [if_neg h2]
      go_wp2_with (go_at_call 107; refine (HN.out _ _).mono ?_; rintro e w' ⟨rfl, rfl⟩)
      go_ret
      exact ⟨rfl, rfl⟩

theorem nan_u8 (x : Int) (w : World) : Calls Tryz.prog 110 #[.int .u8 x] w fun e w' => e = .returned (.bool false) ∧ w = w' := by
  go_enter Tryz.func110, Tryz.ntmps110
  go_wp2_with fail
  go_ret
  exact ⟨by simp, rfl⟩

theorem cmp_u8 (x y : Int) (w : World) : Calls Tryz.prog 83 #[.int .u8 x, .int .u8 y] w fun e w' => e = .returned (.int .i64 (cmpI x y)) ∧ w = w' := by
  have HN := Lib.hid (fun x w => nan_u8 x w)
  unfold cmpI
  go_enter Tryz.func83, Tryz.ntmps83
  by_cases h1 : x < y
  · rw [if_pos h1]
    go_wp2_with (go_at_call 110; refine (HN.out _ _).mono ?_; rintro e w' ⟨rfl, rfl⟩)
    go_ret
    exact ⟨rfl, rfl⟩
  · rw [if_neg h1]
    by_cases h2 : y < x
    · rw [if_pos h2]
      go_wp2_with (go_at_call 110; refine (HN.out _ _).mono ?_; rintro e w' ⟨rfl, rfl⟩)
      go_ret
      exact ⟨rfl, rfl⟩
    · rw [if_neg h2]
      go_wp2_with (go_at_call 110; refine (HN.out _ _).mono ?_; rintro e w' ⟨rfl, rfl⟩)
      go_ret
      exact ⟨rfl, rfl⟩

theorem nan_u32 (x : Int) (w : World) : Calls Tryz.prog 112 #[.int .u32 x] w fun e w' => e = .returned (.bool false) ∧ w = w' := by
  go_enter Tryz.func112, Tryz.ntmps112
  go_wp2_with fail
  go_ret
  exact ⟨by simp, rfl⟩

theorem cmp_u32 (x y : Int) (w : World) : Calls Tryz.prog 87 #[.int .u32 x, .int .u32 y] w fun e w' => e = .returned (.int .i64 (cmpI x y)) ∧ w = w' := by
  have HN := Lib.hid (fun x w => nan_u32 x w)
  unfold cmpI
  go_enter Tryz.func87, Tryz.ntmps87
  by_cases h1 : x < y
  · rw [if_pos h1]
    go_wp2_with (go_at_call 112; refine (HN.out _ _).mono ?_; rintro e w' ⟨rfl, rfl⟩)
    go_ret
    exact ⟨rfl, rfl⟩
  · rw [if_neg h1]
    by_cases h2 : y < x
    · rw [if_pos h2]
      go_wp2_with (go_at_call 112; refine (HN.out _ _).mono ?_; rintro e w' ⟨rfl, rfl⟩)
      go_ret
      exact ⟨rfl, rfl⟩
    · rw [if_neg h2]
      go_wp2_with (go_at_call 112; refine (HN.out _ _).mono ?_; rintro e w' ⟨rfl, rfl⟩)
      go_ret
      exact ⟨rfl, rfl⟩

theorem nan_str (x : ByteArray) (w : World) : Calls Tryz.prog 106 #[.string x] w fun e w' => e = .returned (.bool false) ∧ w = w' := by
  go_enter Tryz.func106, Tryz.ntmps106
  go_wp2_with fail
  go_ret
  exact ⟨by simp, rfl⟩

theorem cmp_str (x y : ByteArray) (w : World) : Calls Tryz.prog 77 #[.string x, .string y] w fun e w' => e = .returned (.int .i64 (cmpS x y)) ∧ w = w' := by
  have HN := Lib.hid (fun x w => nan_str x w)
  unfold cmpS
  go_enter Tryz.func77, Tryz.ntmps77
  cases h1 : Op.bytesLess x.toList y.toList with
  | true =>
    go_wp2_with (go_at_call 106; refine (HN.out _ _).mono ?_; rintro e w' ⟨rfl, rfl⟩)
    go_ret
    exact ⟨by simp, rfl⟩
  | false =>
    cases h2 : (x.toList == y.toList) with
    | true =>
      go_wp2_with (go_at_call 106; refine (HN.out _ _).mono ?_; rintro e w' ⟨rfl, rfl⟩)
      go_ret
      exact ⟨by simp, rfl⟩
    | false =>
      go_wp2_with (go_at_call 106; refine (HN.out _ _).mono ?_; rintro e w' ⟨rfl, rfl⟩)
      go_ret
      exact ⟨by simp, rfl⟩

theorem cmpb_ok (x y : Bool) (w : World) : Calls Tryz.prog 84 #[.bool x, .bool y] w fun e w' => e = .returned (.int .i64 (cmpB x y)) ∧ w = w' := by
  cases x <;> cases y
  all_goals
    go_enter Tryz.func84, Tryz.ntmps84
    go_wp2_with fail
    go_ret
    exact ⟨rfl, rfl⟩

theorem orI_drop {l : List Int} : ∀ {k : Nat}, (∀ i, i < k → l.getD i 0 = 0) → orI l = orI (l.drop k) := by
  induction l with
  | nil => intro k h; simp
  | cons a l ih =>
    intro k h
    cases k with
    | zero => rfl
    | succ k =>
      have h0 := h 0 (by omega)
      simp at h0
      rw [orI, if_pos h0, List.drop_succ_cons]
      exact ih fun i hi => by simpa using h (i + 1) (by omega)
theorem orI_at {l : List Int} {k : Nat} (h : ∀ i, i < k → l.getD i 0 = 0) (hk : k < l.length) (hne : l.getD k 0 ≠ 0) : orI l = l.getD k 0 := by
  rw [orI_drop h, List.drop_eq_getElem_cons hk]
  have e : l.getD k 0 = l[k] := by simp [List.getD, hk]
  rw [e] at hne ⊢
  rw [orI, if_neg hne]
theorem orI_end {l : List Int} (h : ∀ i, i < l.length → l.getD i 0 = 0) : orI l = 0 := by
  rw [orI_drop h, List.drop_length]
  rfl

theorem or_ok (l : List Int) (A : Option Addr) (c : Nat) (w : World) (hA : Cells w A (l.map (.int .i64))) (hl : l.length ≤ 1000) :
    Calls Tryz.prog 75 #[.slice A l.length c] w fun e w' => e = .returned (.int .i64 (orI l)) ∧ w = w' := by
  have HA : Hid (∀ k, k < l.length → ∃ b o, A = some ⟨b, o, none⟩ ∧ w.cell? ⟨b, o + k, none⟩ = some (.int .i64 (l.getD k 0))) := Lib.hid fun k hk => by
    obtain ⟨b, o, h1, -, h2⟩ := hA.some (by rw [List.length_map]; omega)
    refine ⟨b, o, h1, h2 k _ ?_⟩
    rw [List.getElem?_map, List.getElem?_eq_getElem hk]
    simp [List.getD, hk]
  clear hA
  go_enter Tryz.func75, Tryz.ntmps75
  go_wp2_with fail
  go_loopw [5, 8] (fun _ i wr => ∃ k : Nat, k ≤ l.length ∧ i = .int .i64 (k : Int) ∧ wr = w ∧ Hid (∀ i, i < k → l.getD i 0 = 0)) (fun _ i _ => l.length - (intOf i).toNat)
  case atStart => exact ⟨0, by omega, rfl, rfl, Lib.hid (fun i hi => absurd hi (by omega))⟩
  case round =>
    obtain ⟨k, hk, rfl, rfl, ho⟩ := hrel
    by_cases hlt : k < l.length
    · have hki : (k : Int) < (l.length : Int) := by omega
      have hwk : wrap64 ((k : Int) + 1) = (k : Int) + 1 := by unfold wrap64; omega
      obtain ⟨b, o, rfl, hc⟩ := HA.out k hlt
      have HAT := Lib.hid (orI_at ho.out hlt)
      have HNX : Hid (l.getD k 0 = 0 → ∀ i, i < k + 1 → l.getD i 0 = 0) := Lib.hid (fun h i hi => by
        rcases Nat.lt_or_ge i k with h3 | h3
        · exact ho.out i h3
        · obtain rfl : i = k := by omega
          exact h)
      generalize l.getD k 0 = x at *
      by_cases hx : x = 0
      · have HN2 := Lib.hid (HNX.out hx)
        subst hx
        clear HNX HAT
        go_wp2_with fail
        go_roundw
        case rel => exact ⟨k + 1, by omega, by go_num, by trivial, HN2⟩
        case measure => simp [intOf]; omega
      · have HE := Lib.hid (HAT.out hx)
        clear HNX HAT
        go_wp2_with fail
        go_ret
        exact ⟨by rw [HE.out]; simp, rfl⟩
    · have hki : ¬ (k : Int) < (l.length : Int) := by omega
      have HE := Lib.hid (orI_end (l := l) (fun i hi => ho.out i (by omega)))
      go_wp2_with fail
      go_ret
      exact ⟨by rw [HE.out]; simp, rfl⟩

end Go.Proofs.YthdagjlgfffpbaaGreat
