/-
  Layer 3 (buf): numbers read at offsets. By the verifier.
-/
import Derived.Test.YtajkneekehkhbaaBA
import Derived.Test.YtajkneekehkhbaaBMath
set_option linter.unusedVariables false
namespace Go.Proofs.Ytajkneekehkhbaa
open Go.RowKit

/-- The part of a list. -/
def sub (l : List Nat) (x n : Nat) : List Nat := (l.drop x).take n

theorem sub_len {l : List Nat} {x n : Nat} (h : x + n ≤ l.length) : (sub l x n).length = n := by
  unfold sub
  rw [List.length_take, List.length_drop]
  omega

theorem sub_bs {l : List Nat} (h : Bs l) (x n : Nat) : Bs (sub l x n) := (h.drop x).take n

theorem sub_get {l : List Nat} {x n i : Nat} (h : x + n ≤ l.length) (hi : i < n) : (sub l x n).getD i 0 = l.getD (x + i) 0 := by
  unfold sub
  simp [List.getD, List.getElem?_drop, hi]

/-- The address of a part. -/
def pAt (A : Option Addr) (c x : Nat) : Option Addr := if c = x then A else A.map (·.add x)

theorem pAt_cap (A : Option Addr) (c : Nat) : pAt A c c = A := by unfold pAt; rw [if_pos rfl]
theorem pAt_some (b o c x : Nat) (h : c ≠ x) : pAt (some ⟨b, o, none⟩) c x = some ⟨b, o + x, none⟩ := by
  unfold pAt
  rw [if_neg h]
  simp only [Option.map_some, Addr.add]
  split <;> simp_all
theorem pAt_zero (b o c : Nat) : pAt (some ⟨b, o, none⟩) c 0 = some ⟨b, o, none⟩ := by
  by_cases h : c = 0
  · subst h; exact pAt_cap _ _
  · rw [pAt_some _ _ _ _ h, Nat.add_zero]

theorem bys_part {w : World} {A : Option Addr} {l : List Nat} (hl : Bys w A l) (c x n : Nat) (hc : l.length ≤ c) (h : x + n ≤ l.length) : Bys w (pAt A c x) (sub l x n) := by
  refine ⟨fun i hi => ?_, sub_bs hl.2.1 x n, by have := hl.2.2; rw [sub_len h]; omega⟩
  rw [sub_len h] at hi
  obtain ⟨b, o, rfl, hb, hcl⟩ := hl.1 (x + i) (by omega)
  refine ⟨b, o + x, pAt_some b o c x (by omega), hb, ?_⟩
  show w.cell? ⟨b, o + x + i, none⟩ = some (V8 ((sub l x n).getD i 0))
  rw [sub_get h hi, Nat.add_assoc]
  exact hcl


theorem number8_no (A : Option Addr) (L c : Nat) (x : Int) (hx : I64 x) (hL : L ≤ maxLen) (h : ¬ Ex L x 1) (w : World) :
    Calls Try.prog 32 #[.slice A L c, .int .i64 x] w fun e w' => e = .returned (.tuple #[.int .u8 0, .bool false]) ∧ w = w' := by
  have HP := Lib.hid (part_no A L c x 1 hx (by unfold I64; omega) hL h w)
  clear hx hL h
  go_enter Try.func32, Try.ntmps32
  go_wp2_with fail
  refine (width_8 _).mono ?_
  rintro e w' ⟨rfl, rfl⟩
  go_wp2_with fail
  refine HP.out.mono ?_
  rintro e w' ⟨rfl, rfl⟩
  go_wp2_with fail
  go_loop [8, 21] (fun x i => x = .int .u8 0 ∧ i = .int .i64 0) (fun _ i => 1 - (intOf i).toNat)
  case atStart => exact ⟨rfl, rfl⟩
  case round =>
    obtain ⟨rfl, rfl⟩ := hrel
    go_wp2_with fail
    go_ret2
    exact ⟨rfl, rfl⟩

set_option maxHeartbeats 1000000 in
theorem number8_yes (A : Option Addr) (l : List Nat) (c x : Nat) (w : World) (hl : Bys w A l) (hc : l.length ≤ c) (h : x + 1 ≤ l.length) :
    Calls Try.prog 32 #[.slice A l.length c, .int .i64 (x : Int)] w fun e w' => e = .returned (.tuple #[.int .u8 (leV (sub l x 1) : Nat), .bool true]) ∧ w = w' := by
  have HP : Hid (∀ W, Calls Try.prog 36 #[.slice A l.length c, .int .i64 (x : Int), .int .i64 1] W fun e w' => e = .returned (.tuple #[.slice (pAt A c x) 1 (c - x), .bool true]) ∧ W = w') := Lib.hid fun W => part_yes A l.length c x 1 hc hl.2.2 h W
  have HS := Lib.hid (bys_part hl c x 1 hc h)
  have HN := Lib.hid (sub_len h)
  generalize sub l x 1 = S at HS HN ⊢
  generalize pAt A c x = P at HS HP ⊢
  generalize c - x = d at HP ⊢
  clear hc hl h
  go_enter Try.func32, Try.ntmps32
  go_wp2_with fail
  refine (width_8 _).mono ?_
  rintro e w' ⟨rfl, rfl⟩
  go_wp2_with fail
  refine (HP.out _).mono ?_
  rintro e w' ⟨rfl, rfl⟩
  go_wp2_with fail
  go_loop [8, 21] (fun x i => ∃ k : Nat, k ≤ 1 ∧ i = .int .i64 (k : Int) ∧ x = .int .u8 (leV (S.take k) : Nat)) (fun _ i => 1 - (intOf i).toNat)
  case atStart => exact ⟨0, by omega, rfl, rfl⟩
  case round =>
    obtain ⟨k, hk, rfl, rfl⟩ := hrel
    have hk1 : k = 1 ∨ k = 0 := by omega
    rcases hk1 with rfl | rfl
    · have e : S.take 1 = S := List.take_of_length_le (by rw [HN.out]; exact Nat.le_refl _)
      rw [e]
      clear e
      go_wp2_with fail
      go_ret2
      exact ⟨rfl, rfl⟩
    · obtain ⟨b, o, rfl, hbo, hcl⟩ := HS.out.1 0 (by rw [HN.out]; omega)
      have hx := HS.out.2.1.get 0
      have ha := leV_take_lt HS.out.2.1 0 (by rw [HN.out]; omega)
      have hs := leV_snoc_or HS.out.2.1 0 (by rw [HN.out]; omega)
      have ho : bits .or .u8 (leV (S.take 0) : Int) ((S.getD 0 0 : Int)) = (leV (S.take (0 + 1)) : Int) := by
        have e1 : ((S.getD 0 0 : Int)) = ((1 * S.getD 0 0 : Nat) : Int) := by omega
        have e2 : 256 ^ 0 * S.getD 0 0 = 1 * S.getD 0 0 := by omega
        rw [e1, u8_or_nat _ _ (by omega) (by omega), ← hs, e2]
      have HO := Lib.hid ho
      replace hcl : w.cell? ⟨b, o, none⟩ = some (V8 (S.getD 0 0)) := hcl
      unfold V8 at hcl
      clear ho hs
      obtain ⟨a, hae⟩ : ∃ a : Int, a = (leV (S.take 0) : Int) := ⟨_, rfl⟩
      obtain ⟨y, hye⟩ : ∃ y : Int, y = (S.getD 0 0 : Int) := ⟨_, rfl⟩
      have hy0 : 0 ≤ y := by omega
      have hy1 : y < 256 := by omega
      rw [← hae] at HO ⊢
      rw [← hye] at hcl
      rw [← hye] at HO
      clear hae hye
      go_wp2_with fail
      go_round
      case rel => exact ⟨0 + 1, by omega, by go_num, congrArg (Value.int .u8) HO.out⟩
      case measure => simp [intOf]


theorem number16_no (A : Option Addr) (L c : Nat) (x : Int) (hx : I64 x) (hL : L ≤ maxLen) (h : ¬ Ex L x 2) (w : World) :
    Calls Try.prog 33 #[.slice A L c, .int .i64 x] w fun e w' => e = .returned (.tuple #[.int .u16 0, .bool false]) ∧ w = w' := by
  have HP := Lib.hid (part_no A L c x 2 hx (by unfold I64; omega) hL h w)
  clear hx hL h
  go_enter Try.func33, Try.ntmps33
  go_wp2_with fail
  refine (width_16 _).mono ?_
  rintro e w' ⟨rfl, rfl⟩
  go_wp2_with fail
  refine HP.out.mono ?_
  rintro e w' ⟨rfl, rfl⟩
  go_wp2_with fail
  go_loop [8, 21] (fun x i => x = .int .u16 0 ∧ i = .int .i64 0) (fun _ i => 1 - (intOf i).toNat)
  case atStart => exact ⟨rfl, rfl⟩
  case round =>
    obtain ⟨rfl, rfl⟩ := hrel
    go_wp2_with fail
    go_ret2
    exact ⟨rfl, rfl⟩

set_option maxHeartbeats 1000000 in
theorem number16_yes (A : Option Addr) (l : List Nat) (c x : Nat) (w : World) (hl : Bys w A l) (hc : l.length ≤ c) (h : x + 2 ≤ l.length) :
    Calls Try.prog 33 #[.slice A l.length c, .int .i64 (x : Int)] w fun e w' => e = .returned (.tuple #[.int .u16 (leV (sub l x 2) : Nat), .bool true]) ∧ w = w' := by
  have HP : Hid (∀ W, Calls Try.prog 36 #[.slice A l.length c, .int .i64 (x : Int), .int .i64 2] W fun e w' => e = .returned (.tuple #[.slice (pAt A c x) 2 (c - x), .bool true]) ∧ W = w') := Lib.hid fun W => part_yes A l.length c x 2 hc hl.2.2 h W
  have HS := Lib.hid (bys_part hl c x 2 hc h)
  have HN := Lib.hid (sub_len h)
  generalize sub l x 2 = S at HS HN ⊢
  generalize pAt A c x = P at HS HP ⊢
  generalize c - x = d at HP ⊢
  clear hc hl h
  go_enter Try.func33, Try.ntmps33
  go_wp2_with fail
  refine (width_16 _).mono ?_
  rintro e w' ⟨rfl, rfl⟩
  go_wp2_with fail
  refine (HP.out _).mono ?_
  rintro e w' ⟨rfl, rfl⟩
  go_wp2_with fail
  go_loop [8, 21] (fun x i => ∃ k : Nat, k ≤ 2 ∧ i = .int .i64 (k : Int) ∧ x = .int .u16 (leV (S.take k) : Nat)) (fun _ i => 2 - (intOf i).toNat)
  case atStart => exact ⟨0, by omega, rfl, rfl⟩
  case round =>
    obtain ⟨k, hk, rfl, rfl⟩ := hrel
    have hk1 : k = 2 ∨ k = 0 ∨ k = 1 := by omega
    rcases hk1 with rfl | rfl | rfl
    · have e : S.take 2 = S := List.take_of_length_le (by rw [HN.out]; exact Nat.le_refl _)
      rw [e]
      clear e
      go_wp2_with fail
      go_ret2
      exact ⟨rfl, rfl⟩
    · obtain ⟨b, o, rfl, hbo, hcl⟩ := HS.out.1 0 (by rw [HN.out]; omega)
      have hx := HS.out.2.1.get 0
      have ha := leV_take_lt HS.out.2.1 0 (by rw [HN.out]; omega)
      have hs := leV_snoc_or HS.out.2.1 0 (by rw [HN.out]; omega)
      have ho : bits .or .u16 (leV (S.take 0) : Int) ((S.getD 0 0 : Int)) = (leV (S.take (0 + 1)) : Int) := by
        have e1 : ((S.getD 0 0 : Int)) = ((1 * S.getD 0 0 : Nat) : Int) := by omega
        have e2 : 256 ^ 0 * S.getD 0 0 = 1 * S.getD 0 0 := by omega
        rw [e1, u16_or_nat _ _ (by omega) (by omega), ← hs, e2]
      have HO := Lib.hid ho
      replace hcl : w.cell? ⟨b, o, none⟩ = some (V8 (S.getD 0 0)) := hcl
      unfold V8 at hcl
      clear ho hs
      obtain ⟨a, hae⟩ : ∃ a : Int, a = (leV (S.take 0) : Int) := ⟨_, rfl⟩
      obtain ⟨y, hye⟩ : ∃ y : Int, y = (S.getD 0 0 : Int) := ⟨_, rfl⟩
      have hy0 : 0 ≤ y := by omega
      have hy1 : y < 256 := by omega
      rw [← hae] at HO ⊢
      rw [← hye] at hcl
      rw [← hye] at HO
      clear hae hye
      go_wp2_with fail
      go_round
      case rel => exact ⟨0 + 1, by omega, by go_num, congrArg (Value.int .u16) HO.out⟩
      case measure => simp [intOf]
    · obtain ⟨b, o, rfl, hbo, hcl⟩ := HS.out.1 1 (by rw [HN.out]; omega)
      have hx := HS.out.2.1.get 1
      have ha := leV_take_lt HS.out.2.1 1 (by rw [HN.out]; omega)
      have hs := leV_snoc_or HS.out.2.1 1 (by rw [HN.out]; omega)
      have ho : bits .or .u16 (leV (S.take 1) : Int) ((S.getD 1 0 : Int) * 256) = (leV (S.take (1 + 1)) : Int) := by
        have e1 : ((S.getD 1 0 : Int) * 256) = ((256 * S.getD 1 0 : Nat) : Int) := by omega
        have e2 : 256 ^ 1 * S.getD 1 0 = 256 * S.getD 1 0 := by omega
        rw [e1, u16_or_nat _ _ (by omega) (by omega), ← hs, e2]
      have HO := Lib.hid ho
      replace hcl : w.cell? ⟨b, o + 1, none⟩ = some (V8 (S.getD 1 0)) := hcl
      unfold V8 at hcl
      clear ho hs
      obtain ⟨a, hae⟩ : ∃ a : Int, a = (leV (S.take 1) : Int) := ⟨_, rfl⟩
      obtain ⟨y, hye⟩ : ∃ y : Int, y = (S.getD 1 0 : Int) := ⟨_, rfl⟩
      have hy0 : 0 ≤ y := by omega
      have hy1 : y < 256 := by omega
      rw [← hae] at HO ⊢
      rw [← hye] at hcl
      rw [← hye] at HO
      clear hae hye
      go_wp2_with fail
      go_round
      case rel => exact ⟨1 + 1, by omega, by go_num, congrArg (Value.int .u16) HO.out⟩
      case measure => simp [intOf]


theorem number32_no (A : Option Addr) (L c : Nat) (x : Int) (hx : I64 x) (hL : L ≤ maxLen) (h : ¬ Ex L x 4) (w : World) :
    Calls Try.prog 34 #[.slice A L c, .int .i64 x] w fun e w' => e = .returned (.tuple #[.int .u32 0, .bool false]) ∧ w = w' := by
  have HP := Lib.hid (part_no A L c x 4 hx (by unfold I64; omega) hL h w)
  clear hx hL h
  go_enter Try.func34, Try.ntmps34
  go_wp2_with fail
  refine (width_32 _).mono ?_
  rintro e w' ⟨rfl, rfl⟩
  go_wp2_with fail
  refine HP.out.mono ?_
  rintro e w' ⟨rfl, rfl⟩
  go_wp2_with fail
  go_loop [8, 21] (fun x i => x = .int .u32 0 ∧ i = .int .i64 0) (fun _ i => 1 - (intOf i).toNat)
  case atStart => exact ⟨rfl, rfl⟩
  case round =>
    obtain ⟨rfl, rfl⟩ := hrel
    go_wp2_with fail
    go_ret2
    exact ⟨rfl, rfl⟩

set_option maxHeartbeats 1000000 in
theorem number32_yes (A : Option Addr) (l : List Nat) (c x : Nat) (w : World) (hl : Bys w A l) (hc : l.length ≤ c) (h : x + 4 ≤ l.length) :
    Calls Try.prog 34 #[.slice A l.length c, .int .i64 (x : Int)] w fun e w' => e = .returned (.tuple #[.int .u32 (leV (sub l x 4) : Nat), .bool true]) ∧ w = w' := by
  have HP : Hid (∀ W, Calls Try.prog 36 #[.slice A l.length c, .int .i64 (x : Int), .int .i64 4] W fun e w' => e = .returned (.tuple #[.slice (pAt A c x) 4 (c - x), .bool true]) ∧ W = w') := Lib.hid fun W => part_yes A l.length c x 4 hc hl.2.2 h W
  have HS := Lib.hid (bys_part hl c x 4 hc h)
  have HN := Lib.hid (sub_len h)
  generalize sub l x 4 = S at HS HN ⊢
  generalize pAt A c x = P at HS HP ⊢
  generalize c - x = d at HP ⊢
  clear hc hl h
  go_enter Try.func34, Try.ntmps34
  go_wp2_with fail
  refine (width_32 _).mono ?_
  rintro e w' ⟨rfl, rfl⟩
  go_wp2_with fail
  refine (HP.out _).mono ?_
  rintro e w' ⟨rfl, rfl⟩
  go_wp2_with fail
  go_loop [8, 21] (fun x i => ∃ k : Nat, k ≤ 4 ∧ i = .int .i64 (k : Int) ∧ x = .int .u32 (leV (S.take k) : Nat)) (fun _ i => 4 - (intOf i).toNat)
  case atStart => exact ⟨0, by omega, rfl, rfl⟩
  case round =>
    obtain ⟨k, hk, rfl, rfl⟩ := hrel
    have hk1 : k = 4 ∨ k = 0 ∨ k = 1 ∨ k = 2 ∨ k = 3 := by omega
    rcases hk1 with rfl | rfl | rfl | rfl | rfl
    · have e : S.take 4 = S := List.take_of_length_le (by rw [HN.out]; exact Nat.le_refl _)
      rw [e]
      clear e
      go_wp2_with fail
      go_ret2
      exact ⟨rfl, rfl⟩
    · obtain ⟨b, o, rfl, hbo, hcl⟩ := HS.out.1 0 (by rw [HN.out]; omega)
      have hx := HS.out.2.1.get 0
      have ha := leV_take_lt HS.out.2.1 0 (by rw [HN.out]; omega)
      have hs := leV_snoc_or HS.out.2.1 0 (by rw [HN.out]; omega)
      have ho : bits .or .u32 (leV (S.take 0) : Int) ((S.getD 0 0 : Int)) = (leV (S.take (0 + 1)) : Int) := by
        have e1 : ((S.getD 0 0 : Int)) = ((1 * S.getD 0 0 : Nat) : Int) := by omega
        have e2 : 256 ^ 0 * S.getD 0 0 = 1 * S.getD 0 0 := by omega
        rw [e1, u32_or_nat _ _ (by omega) (by omega), ← hs, e2]
      have HO := Lib.hid ho
      replace hcl : w.cell? ⟨b, o, none⟩ = some (V8 (S.getD 0 0)) := hcl
      unfold V8 at hcl
      clear ho hs
      obtain ⟨a, hae⟩ : ∃ a : Int, a = (leV (S.take 0) : Int) := ⟨_, rfl⟩
      obtain ⟨y, hye⟩ : ∃ y : Int, y = (S.getD 0 0 : Int) := ⟨_, rfl⟩
      have hy0 : 0 ≤ y := by omega
      have hy1 : y < 256 := by omega
      rw [← hae] at HO ⊢
      rw [← hye] at hcl
      rw [← hye] at HO
      clear hae hye
      go_wp2_with fail
      go_round
      case rel => exact ⟨0 + 1, by omega, by go_num, congrArg (Value.int .u32) HO.out⟩
      case measure => simp [intOf]
    · obtain ⟨b, o, rfl, hbo, hcl⟩ := HS.out.1 1 (by rw [HN.out]; omega)
      have hx := HS.out.2.1.get 1
      have ha := leV_take_lt HS.out.2.1 1 (by rw [HN.out]; omega)
      have hs := leV_snoc_or HS.out.2.1 1 (by rw [HN.out]; omega)
      have ho : bits .or .u32 (leV (S.take 1) : Int) ((S.getD 1 0 : Int) * 256) = (leV (S.take (1 + 1)) : Int) := by
        have e1 : ((S.getD 1 0 : Int) * 256) = ((256 * S.getD 1 0 : Nat) : Int) := by omega
        have e2 : 256 ^ 1 * S.getD 1 0 = 256 * S.getD 1 0 := by omega
        rw [e1, u32_or_nat _ _ (by omega) (by omega), ← hs, e2]
      have HO := Lib.hid ho
      replace hcl : w.cell? ⟨b, o + 1, none⟩ = some (V8 (S.getD 1 0)) := hcl
      unfold V8 at hcl
      clear ho hs
      obtain ⟨a, hae⟩ : ∃ a : Int, a = (leV (S.take 1) : Int) := ⟨_, rfl⟩
      obtain ⟨y, hye⟩ : ∃ y : Int, y = (S.getD 1 0 : Int) := ⟨_, rfl⟩
      have hy0 : 0 ≤ y := by omega
      have hy1 : y < 256 := by omega
      rw [← hae] at HO ⊢
      rw [← hye] at hcl
      rw [← hye] at HO
      clear hae hye
      go_wp2_with fail
      go_round
      case rel => exact ⟨1 + 1, by omega, by go_num, congrArg (Value.int .u32) HO.out⟩
      case measure => simp [intOf]
    · obtain ⟨b, o, rfl, hbo, hcl⟩ := HS.out.1 2 (by rw [HN.out]; omega)
      have hx := HS.out.2.1.get 2
      have ha := leV_take_lt HS.out.2.1 2 (by rw [HN.out]; omega)
      have hs := leV_snoc_or HS.out.2.1 2 (by rw [HN.out]; omega)
      have ho : bits .or .u32 (leV (S.take 2) : Int) ((S.getD 2 0 : Int) * 65536) = (leV (S.take (2 + 1)) : Int) := by
        have e1 : ((S.getD 2 0 : Int) * 65536) = ((65536 * S.getD 2 0 : Nat) : Int) := by omega
        have e2 : 256 ^ 2 * S.getD 2 0 = 65536 * S.getD 2 0 := by omega
        rw [e1, u32_or_nat _ _ (by omega) (by omega), ← hs, e2]
      have HO := Lib.hid ho
      replace hcl : w.cell? ⟨b, o + 2, none⟩ = some (V8 (S.getD 2 0)) := hcl
      unfold V8 at hcl
      clear ho hs
      obtain ⟨a, hae⟩ : ∃ a : Int, a = (leV (S.take 2) : Int) := ⟨_, rfl⟩
      obtain ⟨y, hye⟩ : ∃ y : Int, y = (S.getD 2 0 : Int) := ⟨_, rfl⟩
      have hy0 : 0 ≤ y := by omega
      have hy1 : y < 256 := by omega
      rw [← hae] at HO ⊢
      rw [← hye] at hcl
      rw [← hye] at HO
      clear hae hye
      go_wp2_with fail
      go_round
      case rel => exact ⟨2 + 1, by omega, by go_num, congrArg (Value.int .u32) HO.out⟩
      case measure => simp [intOf]
    · obtain ⟨b, o, rfl, hbo, hcl⟩ := HS.out.1 3 (by rw [HN.out]; omega)
      have hx := HS.out.2.1.get 3
      have ha := leV_take_lt HS.out.2.1 3 (by rw [HN.out]; omega)
      have hs := leV_snoc_or HS.out.2.1 3 (by rw [HN.out]; omega)
      have ho : bits .or .u32 (leV (S.take 3) : Int) ((S.getD 3 0 : Int) * 16777216) = (leV (S.take (3 + 1)) : Int) := by
        have e1 : ((S.getD 3 0 : Int) * 16777216) = ((16777216 * S.getD 3 0 : Nat) : Int) := by omega
        have e2 : 256 ^ 3 * S.getD 3 0 = 16777216 * S.getD 3 0 := by omega
        rw [e1, u32_or_nat _ _ (by omega) (by omega), ← hs, e2]
      have HO := Lib.hid ho
      replace hcl : w.cell? ⟨b, o + 3, none⟩ = some (V8 (S.getD 3 0)) := hcl
      unfold V8 at hcl
      clear ho hs
      obtain ⟨a, hae⟩ : ∃ a : Int, a = (leV (S.take 3) : Int) := ⟨_, rfl⟩
      obtain ⟨y, hye⟩ : ∃ y : Int, y = (S.getD 3 0 : Int) := ⟨_, rfl⟩
      have hy0 : 0 ≤ y := by omega
      have hy1 : y < 256 := by omega
      rw [← hae] at HO ⊢
      rw [← hye] at hcl
      rw [← hye] at HO
      clear hae hye
      go_wp2_with fail
      go_round
      case rel => exact ⟨3 + 1, by omega, by go_num, congrArg (Value.int .u32) HO.out⟩
      case measure => simp [intOf]


theorem number64_no (A : Option Addr) (L c : Nat) (x : Int) (hx : I64 x) (hL : L ≤ maxLen) (h : ¬ Ex L x 8) (w : World) :
    Calls Try.prog 35 #[.slice A L c, .int .i64 x] w fun e w' => e = .returned (.tuple #[.int .u64 0, .bool false]) ∧ w = w' := by
  have HP := Lib.hid (part_no A L c x 8 hx (by unfold I64; omega) hL h w)
  clear hx hL h
  go_enter Try.func35, Try.ntmps35
  go_wp2_with fail
  refine (width_64 _).mono ?_
  rintro e w' ⟨rfl, rfl⟩
  go_wp2_with fail
  refine HP.out.mono ?_
  rintro e w' ⟨rfl, rfl⟩
  go_wp2_with fail
  go_loop [8, 21] (fun x i => x = .int .u64 0 ∧ i = .int .i64 0) (fun _ i => 1 - (intOf i).toNat)
  case atStart => exact ⟨rfl, rfl⟩
  case round =>
    obtain ⟨rfl, rfl⟩ := hrel
    go_wp2_with fail
    go_ret2
    exact ⟨rfl, rfl⟩

set_option maxHeartbeats 1000000 in
theorem number64_yes (A : Option Addr) (l : List Nat) (c x : Nat) (w : World) (hl : Bys w A l) (hc : l.length ≤ c) (h : x + 8 ≤ l.length) :
    Calls Try.prog 35 #[.slice A l.length c, .int .i64 (x : Int)] w fun e w' => e = .returned (.tuple #[.int .u64 (leV (sub l x 8) : Nat), .bool true]) ∧ w = w' := by
  have HP : Hid (∀ W, Calls Try.prog 36 #[.slice A l.length c, .int .i64 (x : Int), .int .i64 8] W fun e w' => e = .returned (.tuple #[.slice (pAt A c x) 8 (c - x), .bool true]) ∧ W = w') := Lib.hid fun W => part_yes A l.length c x 8 hc hl.2.2 h W
  have HS := Lib.hid (bys_part hl c x 8 hc h)
  have HN := Lib.hid (sub_len h)
  generalize sub l x 8 = S at HS HN ⊢
  generalize pAt A c x = P at HS HP ⊢
  generalize c - x = d at HP ⊢
  clear hc hl h
  go_enter Try.func35, Try.ntmps35
  go_wp2_with fail
  refine (width_64 _).mono ?_
  rintro e w' ⟨rfl, rfl⟩
  go_wp2_with fail
  refine (HP.out _).mono ?_
  rintro e w' ⟨rfl, rfl⟩
  go_wp2_with fail
  go_loop [8, 21] (fun x i => ∃ k : Nat, k ≤ 8 ∧ i = .int .i64 (k : Int) ∧ x = .int .u64 (leV (S.take k) : Nat)) (fun _ i => 8 - (intOf i).toNat)
  case atStart => exact ⟨0, by omega, rfl, rfl⟩
  case round =>
    obtain ⟨k, hk, rfl, rfl⟩ := hrel
    have hk1 : k = 8 ∨ k = 0 ∨ k = 1 ∨ k = 2 ∨ k = 3 ∨ k = 4 ∨ k = 5 ∨ k = 6 ∨ k = 7 := by omega
    rcases hk1 with rfl | rfl | rfl | rfl | rfl | rfl | rfl | rfl | rfl
    · have e : S.take 8 = S := List.take_of_length_le (by rw [HN.out]; exact Nat.le_refl _)
      rw [e]
      clear e
      go_wp2_with fail
      go_ret2
      exact ⟨rfl, rfl⟩
    · obtain ⟨b, o, rfl, hbo, hcl⟩ := HS.out.1 0 (by rw [HN.out]; omega)
      have hx := HS.out.2.1.get 0
      have ha := leV_take_lt HS.out.2.1 0 (by rw [HN.out]; omega)
      have hs := leV_snoc_or HS.out.2.1 0 (by rw [HN.out]; omega)
      have ho : bits .or .u64 (leV (S.take 0) : Int) ((S.getD 0 0 : Int)) = (leV (S.take (0 + 1)) : Int) := by
        have e1 : ((S.getD 0 0 : Int)) = ((1 * S.getD 0 0 : Nat) : Int) := by omega
        have e2 : 256 ^ 0 * S.getD 0 0 = 1 * S.getD 0 0 := by omega
        rw [e1, u64_or_nat _ _ (by omega) (by omega), ← hs, e2]
      have HO := Lib.hid ho
      replace hcl : w.cell? ⟨b, o, none⟩ = some (V8 (S.getD 0 0)) := hcl
      unfold V8 at hcl
      clear ho hs
      obtain ⟨a, hae⟩ : ∃ a : Int, a = (leV (S.take 0) : Int) := ⟨_, rfl⟩
      obtain ⟨y, hye⟩ : ∃ y : Int, y = (S.getD 0 0 : Int) := ⟨_, rfl⟩
      have hy0 : 0 ≤ y := by omega
      have hy1 : y < 256 := by omega
      rw [← hae] at HO ⊢
      rw [← hye] at hcl
      rw [← hye] at HO
      clear hae hye
      go_wp2_with fail
      go_round
      case rel => exact ⟨0 + 1, by omega, by go_num, congrArg (Value.int .u64) HO.out⟩
      case measure => simp [intOf]
    · obtain ⟨b, o, rfl, hbo, hcl⟩ := HS.out.1 1 (by rw [HN.out]; omega)
      have hx := HS.out.2.1.get 1
      have ha := leV_take_lt HS.out.2.1 1 (by rw [HN.out]; omega)
      have hs := leV_snoc_or HS.out.2.1 1 (by rw [HN.out]; omega)
      have ho : bits .or .u64 (leV (S.take 1) : Int) ((S.getD 1 0 : Int) * 256) = (leV (S.take (1 + 1)) : Int) := by
        have e1 : ((S.getD 1 0 : Int) * 256) = ((256 * S.getD 1 0 : Nat) : Int) := by omega
        have e2 : 256 ^ 1 * S.getD 1 0 = 256 * S.getD 1 0 := by omega
        rw [e1, u64_or_nat _ _ (by omega) (by omega), ← hs, e2]
      have HO := Lib.hid ho
      replace hcl : w.cell? ⟨b, o + 1, none⟩ = some (V8 (S.getD 1 0)) := hcl
      unfold V8 at hcl
      clear ho hs
      obtain ⟨a, hae⟩ : ∃ a : Int, a = (leV (S.take 1) : Int) := ⟨_, rfl⟩
      obtain ⟨y, hye⟩ : ∃ y : Int, y = (S.getD 1 0 : Int) := ⟨_, rfl⟩
      have hy0 : 0 ≤ y := by omega
      have hy1 : y < 256 := by omega
      rw [← hae] at HO ⊢
      rw [← hye] at hcl
      rw [← hye] at HO
      clear hae hye
      go_wp2_with fail
      go_round
      case rel => exact ⟨1 + 1, by omega, by go_num, congrArg (Value.int .u64) HO.out⟩
      case measure => simp [intOf]
    · obtain ⟨b, o, rfl, hbo, hcl⟩ := HS.out.1 2 (by rw [HN.out]; omega)
      have hx := HS.out.2.1.get 2
      have ha := leV_take_lt HS.out.2.1 2 (by rw [HN.out]; omega)
      have hs := leV_snoc_or HS.out.2.1 2 (by rw [HN.out]; omega)
      have ho : bits .or .u64 (leV (S.take 2) : Int) ((S.getD 2 0 : Int) * 65536) = (leV (S.take (2 + 1)) : Int) := by
        have e1 : ((S.getD 2 0 : Int) * 65536) = ((65536 * S.getD 2 0 : Nat) : Int) := by omega
        have e2 : 256 ^ 2 * S.getD 2 0 = 65536 * S.getD 2 0 := by omega
        rw [e1, u64_or_nat _ _ (by omega) (by omega), ← hs, e2]
      have HO := Lib.hid ho
      replace hcl : w.cell? ⟨b, o + 2, none⟩ = some (V8 (S.getD 2 0)) := hcl
      unfold V8 at hcl
      clear ho hs
      obtain ⟨a, hae⟩ : ∃ a : Int, a = (leV (S.take 2) : Int) := ⟨_, rfl⟩
      obtain ⟨y, hye⟩ : ∃ y : Int, y = (S.getD 2 0 : Int) := ⟨_, rfl⟩
      have hy0 : 0 ≤ y := by omega
      have hy1 : y < 256 := by omega
      rw [← hae] at HO ⊢
      rw [← hye] at hcl
      rw [← hye] at HO
      clear hae hye
      go_wp2_with fail
      go_round
      case rel => exact ⟨2 + 1, by omega, by go_num, congrArg (Value.int .u64) HO.out⟩
      case measure => simp [intOf]
    · obtain ⟨b, o, rfl, hbo, hcl⟩ := HS.out.1 3 (by rw [HN.out]; omega)
      have hx := HS.out.2.1.get 3
      have ha := leV_take_lt HS.out.2.1 3 (by rw [HN.out]; omega)
      have hs := leV_snoc_or HS.out.2.1 3 (by rw [HN.out]; omega)
      have ho : bits .or .u64 (leV (S.take 3) : Int) ((S.getD 3 0 : Int) * 16777216) = (leV (S.take (3 + 1)) : Int) := by
        have e1 : ((S.getD 3 0 : Int) * 16777216) = ((16777216 * S.getD 3 0 : Nat) : Int) := by omega
        have e2 : 256 ^ 3 * S.getD 3 0 = 16777216 * S.getD 3 0 := by omega
        rw [e1, u64_or_nat _ _ (by omega) (by omega), ← hs, e2]
      have HO := Lib.hid ho
      replace hcl : w.cell? ⟨b, o + 3, none⟩ = some (V8 (S.getD 3 0)) := hcl
      unfold V8 at hcl
      clear ho hs
      obtain ⟨a, hae⟩ : ∃ a : Int, a = (leV (S.take 3) : Int) := ⟨_, rfl⟩
      obtain ⟨y, hye⟩ : ∃ y : Int, y = (S.getD 3 0 : Int) := ⟨_, rfl⟩
      have hy0 : 0 ≤ y := by omega
      have hy1 : y < 256 := by omega
      rw [← hae] at HO ⊢
      rw [← hye] at hcl
      rw [← hye] at HO
      clear hae hye
      go_wp2_with fail
      go_round
      case rel => exact ⟨3 + 1, by omega, by go_num, congrArg (Value.int .u64) HO.out⟩
      case measure => simp [intOf]
    · obtain ⟨b, o, rfl, hbo, hcl⟩ := HS.out.1 4 (by rw [HN.out]; omega)
      have hx := HS.out.2.1.get 4
      have ha := leV_take_lt HS.out.2.1 4 (by rw [HN.out]; omega)
      have hs := leV_snoc_or HS.out.2.1 4 (by rw [HN.out]; omega)
      have ho : bits .or .u64 (leV (S.take 4) : Int) ((S.getD 4 0 : Int) * 4294967296) = (leV (S.take (4 + 1)) : Int) := by
        have e1 : ((S.getD 4 0 : Int) * 4294967296) = ((4294967296 * S.getD 4 0 : Nat) : Int) := by omega
        have e2 : 256 ^ 4 * S.getD 4 0 = 4294967296 * S.getD 4 0 := by omega
        rw [e1, u64_or_nat _ _ (by omega) (by omega), ← hs, e2]
      have HO := Lib.hid ho
      replace hcl : w.cell? ⟨b, o + 4, none⟩ = some (V8 (S.getD 4 0)) := hcl
      unfold V8 at hcl
      clear ho hs
      obtain ⟨a, hae⟩ : ∃ a : Int, a = (leV (S.take 4) : Int) := ⟨_, rfl⟩
      obtain ⟨y, hye⟩ : ∃ y : Int, y = (S.getD 4 0 : Int) := ⟨_, rfl⟩
      have hy0 : 0 ≤ y := by omega
      have hy1 : y < 256 := by omega
      rw [← hae] at HO ⊢
      rw [← hye] at hcl
      rw [← hye] at HO
      clear hae hye
      go_wp2_with fail
      go_round
      case rel => exact ⟨4 + 1, by omega, by go_num, congrArg (Value.int .u64) HO.out⟩
      case measure => simp [intOf]
    · obtain ⟨b, o, rfl, hbo, hcl⟩ := HS.out.1 5 (by rw [HN.out]; omega)
      have hx := HS.out.2.1.get 5
      have ha := leV_take_lt HS.out.2.1 5 (by rw [HN.out]; omega)
      have hs := leV_snoc_or HS.out.2.1 5 (by rw [HN.out]; omega)
      have ho : bits .or .u64 (leV (S.take 5) : Int) ((S.getD 5 0 : Int) * 1099511627776) = (leV (S.take (5 + 1)) : Int) := by
        have e1 : ((S.getD 5 0 : Int) * 1099511627776) = ((1099511627776 * S.getD 5 0 : Nat) : Int) := by omega
        have e2 : 256 ^ 5 * S.getD 5 0 = 1099511627776 * S.getD 5 0 := by omega
        rw [e1, u64_or_nat _ _ (by omega) (by omega), ← hs, e2]
      have HO := Lib.hid ho
      replace hcl : w.cell? ⟨b, o + 5, none⟩ = some (V8 (S.getD 5 0)) := hcl
      unfold V8 at hcl
      clear ho hs
      obtain ⟨a, hae⟩ : ∃ a : Int, a = (leV (S.take 5) : Int) := ⟨_, rfl⟩
      obtain ⟨y, hye⟩ : ∃ y : Int, y = (S.getD 5 0 : Int) := ⟨_, rfl⟩
      have hy0 : 0 ≤ y := by omega
      have hy1 : y < 256 := by omega
      rw [← hae] at HO ⊢
      rw [← hye] at hcl
      rw [← hye] at HO
      clear hae hye
      go_wp2_with fail
      go_round
      case rel => exact ⟨5 + 1, by omega, by go_num, congrArg (Value.int .u64) HO.out⟩
      case measure => simp [intOf]
    · obtain ⟨b, o, rfl, hbo, hcl⟩ := HS.out.1 6 (by rw [HN.out]; omega)
      have hx := HS.out.2.1.get 6
      have ha := leV_take_lt HS.out.2.1 6 (by rw [HN.out]; omega)
      have hs := leV_snoc_or HS.out.2.1 6 (by rw [HN.out]; omega)
      have ho : bits .or .u64 (leV (S.take 6) : Int) ((S.getD 6 0 : Int) * 281474976710656) = (leV (S.take (6 + 1)) : Int) := by
        have e1 : ((S.getD 6 0 : Int) * 281474976710656) = ((281474976710656 * S.getD 6 0 : Nat) : Int) := by omega
        have e2 : 256 ^ 6 * S.getD 6 0 = 281474976710656 * S.getD 6 0 := by omega
        rw [e1, u64_or_nat _ _ (by omega) (by omega), ← hs, e2]
      have HO := Lib.hid ho
      replace hcl : w.cell? ⟨b, o + 6, none⟩ = some (V8 (S.getD 6 0)) := hcl
      unfold V8 at hcl
      clear ho hs
      obtain ⟨a, hae⟩ : ∃ a : Int, a = (leV (S.take 6) : Int) := ⟨_, rfl⟩
      obtain ⟨y, hye⟩ : ∃ y : Int, y = (S.getD 6 0 : Int) := ⟨_, rfl⟩
      have hy0 : 0 ≤ y := by omega
      have hy1 : y < 256 := by omega
      rw [← hae] at HO ⊢
      rw [← hye] at hcl
      rw [← hye] at HO
      clear hae hye
      go_wp2_with fail
      go_round
      case rel => exact ⟨6 + 1, by omega, by go_num, congrArg (Value.int .u64) HO.out⟩
      case measure => simp [intOf]
    · obtain ⟨b, o, rfl, hbo, hcl⟩ := HS.out.1 7 (by rw [HN.out]; omega)
      have hx := HS.out.2.1.get 7
      have ha := leV_take_lt HS.out.2.1 7 (by rw [HN.out]; omega)
      have hs := leV_snoc_or HS.out.2.1 7 (by rw [HN.out]; omega)
      have ho : bits .or .u64 (leV (S.take 7) : Int) ((S.getD 7 0 : Int) * 72057594037927936) = (leV (S.take (7 + 1)) : Int) := by
        have e1 : ((S.getD 7 0 : Int) * 72057594037927936) = ((72057594037927936 * S.getD 7 0 : Nat) : Int) := by omega
        have e2 : 256 ^ 7 * S.getD 7 0 = 72057594037927936 * S.getD 7 0 := by omega
        rw [e1, u64_or_nat _ _ (by omega) (by omega), ← hs, e2]
      have HO := Lib.hid ho
      replace hcl : w.cell? ⟨b, o + 7, none⟩ = some (V8 (S.getD 7 0)) := hcl
      unfold V8 at hcl
      clear ho hs
      obtain ⟨a, hae⟩ : ∃ a : Int, a = (leV (S.take 7) : Int) := ⟨_, rfl⟩
      obtain ⟨y, hye⟩ : ∃ y : Int, y = (S.getD 7 0 : Int) := ⟨_, rfl⟩
      have hy0 : 0 ≤ y := by omega
      have hy1 : y < 256 := by omega
      rw [← hae] at HO ⊢
      rw [← hye] at hcl
      rw [← hye] at HO
      clear hae hye
      go_wp2_with fail
      go_round
      case rel => exact ⟨7 + 1, by omega, by go_num, congrArg (Value.int .u64) HO.out⟩
      case measure => simp [intOf]

end Go.Proofs.Ytajkneekehkhbaa
