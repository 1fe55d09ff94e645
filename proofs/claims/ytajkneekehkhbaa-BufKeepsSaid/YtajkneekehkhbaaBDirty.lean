/-
  Layer 3 (buf): the first byte that is not zero, of the program and of the reference. By the verifier.
-/
import Derived.Test.YtajkneekehkhbaaBView
set_option linter.unusedVariables false
namespace Go.Proofs.Ytajkneekehkhbaa
open Go.RowKit

/-- The offset of the first byte that is not zero, where the list stands at an offset. -/
def dirt (x : Int) : List Nat → Int
  | [] => -1
  | d :: l => if d = 0 then dirt (x + 1) l else x

def dirtV (l : List Nat) (x y : Int) : Int := if Ex l.length x y then dirt x (sub l x.toNat y.toNat) else -2

theorem dirtV_yes {l : List Nat} {x n : Nat} (h : x + n ≤ l.length) : dirtV l x n = dirt x (sub l x n) := by
  have h1 : Ex l.length x n := by unfold Ex; omega
  unfold dirtV
  rw [if_pos h1, Int.toNat_natCast, Int.toNat_natCast]
theorem dirtV_no {l : List Nat} {x y : Int} (h : ¬ Ex l.length x y) : dirtV l x y = -2 := if_neg h

theorem dirt_drop (S : List Nat) (x : Int) (k : Nat) (h : k < S.length) : dirt (x + k) (S.drop k) = if S.getD k 0 = 0 then dirt (x + ((k + 1 : Nat) : Int)) (S.drop (k + 1)) else x + k := by
  have e : S.getD k 0 = S[k] := by simp [List.getD, h]
  rw [List.drop_eq_getElem_cons h, e]
  have e2 : x + ((k + 1 : Nat) : Int) = x + k + 1 := by omega
  rw [e2]
  rfl

set_option maxHeartbeats 1000000 in
theorem dirty_ok (A : Option Addr) (l : List Nat) (c : Nat) (x y : Int) (w : World) (hl : Bys w A l) (hc : l.length ≤ c) (hx : I64 x) (hy : I64 y) :
    Calls Try.prog 15 #[.slice A l.length c, .int .i64 x, .int .i64 y] w fun e w' => e = .returned (.int .i64 (dirtV l x y)) ∧ w = w' := by
  have hm := hl.2.2
  by_cases h : Ex l.length x y
  · obtain ⟨k, n, rfl, rfl, hk⟩ := ex_nat2 h
    rw [dirtV_yes hk]
    have HP : Hid (∀ W, Calls Try.prog 36 #[.slice A l.length c, .int .i64 (k : Int), .int .i64 (n : Int)] W fun e w' => e = .returned (.tuple #[.slice (pAt A c k) n (c - k), .bool true]) ∧ W = w') := Lib.hid fun W => part_yes A l.length c k n hc hl.2.2 hk W
    have HS := Lib.hid (bys_part hl c k n hc hk)
    have HN := Lib.hid (sub_len hk)
    unfold maxLen at hm
    have hkn : (k : Int) + n ≤ 9223372036854775807 := by omega
    generalize sub l k n = S at HS HN ⊢
    generalize pAt A c k = P at HS HP ⊢
    generalize c - k = d at HP ⊢
    clear hc hl h hk hm hx hy
    go_enter Try.func15, Try.ntmps15
    go_wp2_with fail
    refine (HP.out _).mono ?_
    rintro e w' ⟨rfl, rfl⟩
    go_wp2_with fail
    go_loop [22] (fun i => ∃ j : Nat, j ≤ n ∧ i = .int .i64 (j : Int) ∧ Hid (dirt k S = dirt (k + j) (S.drop j))) (fun i => n - (intOf i).toNat)
    case atStart => exact ⟨0, by omega, rfl, Lib.hid (by rw [show ((0 : Nat) : Int) = 0 from rfl, Int.add_zero]; rfl)⟩
    case round =>
      obtain ⟨j, hj, rfl, hd⟩ := hrel
      by_cases hlt : j < n
      · obtain ⟨b, o, rfl, hbo, hcl⟩ := HS.out.1 j (by rw [HN.out]; exact hlt)
        replace hcl : w.cell? ⟨b, o + j, none⟩ = some (V8 (S.getD j 0)) := hcl
        have hdd := dirt_drop S k j (by rw [HN.out]; exact hlt)
        have hg := HS.out.2.1.get j
        have hjn : (j : Int) < (n : Int) := by omega
        unfold V8 at hcl
        by_cases hz : S.getD j 0 = 0
        · rw [if_pos hz] at hdd
          rw [hz] at hcl
          have HD := Lib.hid (hd.out.trans hdd)
          clear hz hdd hg
          go_wp2_with fail
          go_round
          case rel => exact ⟨j + 1, by omega, by go_num, HD⟩
          case measure => simp [intOf]; omega
        · rw [if_neg hz] at hdd
          have HD := Lib.hid (hd.out.trans hdd)
          have hq : ((S.getD j 0 : Int) != 0) = true := by rw [bne_iff_ne]; omega
          obtain ⟨y, hye⟩ : ∃ y : Int, y = (S.getD j 0 : Int) := ⟨_, rfl⟩
          rw [← hye] at hcl hq
          clear hz hdd hg hye
          go_wp2_with fail
          go_ret
          exact ⟨congrArg (fun z => Ending.returned (.int .i64 z)) HD.out.symm, rfl⟩
      · have hjn : ¬ (j : Int) < (n : Int) := by omega
        have HD : Hid (dirt k S = -1) := Lib.hid (by rw [hd.out, List.drop_of_length_le (by rw [HN.out]; omega)]; rfl)
        go_wp2_with fail
        go_ret
        exact ⟨congrArg (fun z => Ending.returned (.int .i64 z)) HD.out.symm, rfl⟩
  · rw [dirtV_no h]
    have HP := Lib.hid (part_no A l.length c x y hx hy hl.2.2 h w)
    clear h hl hc hx hy hm
    go_enter Try.func15, Try.ntmps15
    go_wp2_with fail
    refine HP.out.mono ?_
    rintro e w' ⟨rfl, rfl⟩
    go_wp2_with fail
    go_ret
    exact ⟨rfl, rfl⟩

set_option maxHeartbeats 1000000 in
theorem rdirty_ok (A : Option Addr) (l : List Nat) (c : Nat) (x y : Int) (w : World) (hl : Bys w A l) (hc : l.length ≤ c) (hx : I64 x) (hy : I64 y) :
    Calls Try.prog 16 #[.slice A l.length c, .int .i64 x, .int .i64 y] w fun e w' => e = .returned (.int .i64 (dirtV l x y)) ∧ w = w' := by
  have hm := hl.2.2
  have HE := Lib.hid (exists_ok A l c x y hl.2.2 hx hy w)
  by_cases h : Ex l.length x y
  · rw [exB_yes h] at HE
    obtain ⟨k, n, rfl, rfl, hk⟩ := ex_nat2 h
    rw [dirtV_yes hk]
    have HL := Lib.hid hl
    have HS : Hid (∀ i, i < n → (sub l k n).getD i 0 = l.getD (k + i) 0) := Lib.hid fun i hi => sub_get hk hi
    have HB := Lib.hid (sub_bs hl.2.1 k n)
    have HN := Lib.hid (sub_len hk)
    unfold maxLen at hm
    have hkn : (k : Int) + n ≤ 9223372036854775807 := by omega
    generalize sub l k n = S at HS HN HB ⊢
    clear hl h hx hy
    go_enter Try.func16, Try.ntmps16
    go_wp2_with fail
    refine HE.out.mono ?_
    rintro e w' ⟨rfl, rfl⟩
    go_wp2_with fail
    go_loop [7] (fun i => ∃ j : Nat, j ≤ n ∧ i = .int .i64 ((k : Int) + (j : Int)) ∧ Hid (dirt k S = dirt (k + j) (S.drop j))) (fun i => (k + n) - (intOf i).toNat)
    case atStart => exact ⟨0, by omega, rfl, Lib.hid (by rw [show ((0 : Nat) : Int) = 0 from rfl, Int.add_zero]; rfl)⟩
    case round =>
      obtain ⟨j, hj, rfl, hd⟩ := hrel
      by_cases hlt : j < n
      · obtain ⟨b, o, rfl, hbo, hcl⟩ := HL.out.1 (k + j) (by omega)
        replace hcl : w.cell? ⟨b, o + (k + j), none⟩ = some (V8 (l.getD (k + j) 0)) := hcl
        have hdd := dirt_drop S k j (by rw [HN.out]; exact hlt)
        rw [HS.out j hlt] at hdd
        have hg := HL.out.2.1.get (k + j)
        have hjn : (k : Int) + (j : Int) < (k : Int) + (n : Int) := by omega
        have hjl : (k : Int) + (j : Int) < (l.length : Int) := by omega
        unfold V8 at hcl
        by_cases hz : l.getD (k + j) 0 = 0
        · rw [if_pos hz] at hdd
          rw [hz] at hcl
          have HD := Lib.hid (hd.out.trans hdd)
          clear hz hdd hg
          go_wp2_with fail
          go_round
          case rel => exact ⟨j + 1, by omega, by go_num, HD⟩
          case measure => simp [intOf]; omega
        · rw [if_neg hz] at hdd
          have HD := Lib.hid (hd.out.trans hdd)
          have hq : ((l.getD (k + j) 0 : Int) != 0) = true := by rw [bne_iff_ne]; omega
          obtain ⟨y, hye⟩ : ∃ y : Int, y = (l.getD (k + j) 0 : Int) := ⟨_, rfl⟩
          rw [← hye] at hcl hq
          clear hz hdd hg hye
          go_wp2_with fail
          go_ret
          exact ⟨congrArg (fun z => Ending.returned (.int .i64 z)) HD.out.symm, rfl⟩
      · have hjn : ¬ (k : Int) + (j : Int) < (k : Int) + (n : Int) := by omega
        have HD : Hid (dirt k S = -1) := Lib.hid (by rw [hd.out, List.drop_of_length_le (by rw [HN.out]; omega)]; rfl)
        go_wp2_with fail
        go_ret
        exact ⟨congrArg (fun z => Ending.returned (.int .i64 z)) HD.out.symm, rfl⟩
  · rw [exB_no h] at HE
    rw [dirtV_no h]
    clear h hl hc hx hy hm
    go_enter Try.func16, Try.ntmps16
    go_wp2_with fail
    refine HE.out.mono ?_
    rintro e w' ⟨rfl, rfl⟩
    go_wp2_with fail
    go_ret
    exact ⟨rfl, rfl⟩

end Go.Proofs.Ytajkneekehkhbaa
