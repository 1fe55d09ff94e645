/-
  Layer 3 (buf): the methods of a view, and the numbers and the first byte that is not zero of the reference. By the verifier.
-/
import Derived.Test.YtajkneekehkhbaaBNum
set_option linter.unusedVariables false
namespace Go.Proofs.Ytajkneekehkhbaa
open Go.RowKit

/-- Does a part exist? -/
def exB (l : List Nat) (x y : Int) : Bool := decide (Ex l.length x y)
/-- The number that is read. -/
def numV (l : List Nat) (x : Int) (n : Nat) : Int := if Ex l.length x n then (leV (sub l x.toNat n) : Int) else 0

theorem numV_yes {l : List Nat} {x n : Nat} (h : x + n ≤ l.length) : numV l (x : Int) n = (leV (sub l x n) : Int) := by
  have h1 : Ex l.length x n := by unfold Ex; omega
  unfold numV
  rw [if_pos h1, Int.toNat_natCast]
theorem numV_no {l : List Nat} {x : Int} {n : Nat} (h : ¬ Ex l.length x n) : numV l x n = 0 := if_neg h
theorem exB_yes {l : List Nat} {x y : Int} (h : Ex l.length x y) : exB l x y = true := decide_eq_true h
theorem exB_no {l : List Nat} {x y : Int} (h : ¬ Ex l.length x y) : exB l x y = false := decide_eq_false h

theorem numV_nonneg (l : List Nat) (x : Int) (n : Nat) : 0 ≤ numV l x n := by
  unfold numV
  split <;> omega
theorem numV_lt {l : List Nat} (hl : Bs l) (x : Int) (n : Nat) : numV l x n < ((256 ^ n : Nat) : Int) := by
  have hp : 0 < 256 ^ n := Nat.pow_pos (by omega)
  unfold numV
  split
  · rename_i h
    unfold Ex at h
    have := leV_lt (sub_bs hl x.toNat n)
    rw [sub_len (by omega)] at this
    omega
  · omega

theorem ex_nat {L : Nat} {x : Int} {n : Nat} (h : Ex L x n) : ∃ k : Nat, x = (k : Int) ∧ k + n ≤ L := by
  unfold Ex at h
  exact ⟨x.toNat, by omega, by omega⟩
theorem ex_nat2 {L : Nat} {x y : Int} (h : Ex L x y) : ∃ k n : Nat, x = (k : Int) ∧ y = (n : Int) ∧ k + n ≤ L := by
  unfold Ex at h
  exact ⟨x.toNat, y.toNat, by omega, by omega, by omega⟩

theorem view8_ok (A : Option Addr) (l : List Nat) (c : Nat) (x : Int) (w : World) (hl : Bys w A l) (hc : l.length ≤ c) (hx : I64 x) :
    Calls Try.prog 9 #[.slice A l.length c, .int .i64 x] w fun e w' => e = .returned (.tuple #[.int .u8 (numV l x 1), .bool (exB l x 1)]) ∧ w = w' := by
  have H : Calls Try.prog 32 #[.slice A l.length c, .int .i64 x] w fun e w' => e = .returned (.tuple #[.int .u8 (numV l x 1), .bool (exB l x 1)]) ∧ w = w' := by
    by_cases h : Ex l.length x 1
    · rw [exB_yes h]
      obtain ⟨k, rfl, hk⟩ := ex_nat (n := 1) h
      rw [numV_yes hk]
      exact number8_yes A l c k w hl hc hk
    · rw [exB_no h, numV_no h]
      exact number8_no A l.length c x hx hl.2.2 h w
  have HN := Lib.hid H
  generalize numV l x 1 = v at HN ⊢
  generalize exB l x 1 = b at HN ⊢
  clear H hl hc hx
  go_enter Try.func9, Try.ntmps9
  go_wp2_with fail
  refine HN.out.mono ?_
  rintro e w' ⟨rfl, rfl⟩
  go_wp2_with fail
  go_ret2
  exact ⟨rfl, rfl⟩

theorem view16_ok (A : Option Addr) (l : List Nat) (c : Nat) (x : Int) (w : World) (hl : Bys w A l) (hc : l.length ≤ c) (hx : I64 x) :
    Calls Try.prog 10 #[.slice A l.length c, .int .i64 x] w fun e w' => e = .returned (.tuple #[.int .u16 (numV l x 2), .bool (exB l x 2)]) ∧ w = w' := by
  have H : Calls Try.prog 33 #[.slice A l.length c, .int .i64 x] w fun e w' => e = .returned (.tuple #[.int .u16 (numV l x 2), .bool (exB l x 2)]) ∧ w = w' := by
    by_cases h : Ex l.length x 2
    · rw [exB_yes h]
      obtain ⟨k, rfl, hk⟩ := ex_nat (n := 2) h
      rw [numV_yes hk]
      exact number16_yes A l c k w hl hc hk
    · rw [exB_no h, numV_no h]
      exact number16_no A l.length c x hx hl.2.2 h w
  have HN := Lib.hid H
  generalize numV l x 2 = v at HN ⊢
  generalize exB l x 2 = b at HN ⊢
  clear H hl hc hx
  go_enter Try.func10, Try.ntmps10
  go_wp2_with fail
  refine HN.out.mono ?_
  rintro e w' ⟨rfl, rfl⟩
  go_wp2_with fail
  go_ret2
  exact ⟨rfl, rfl⟩

theorem view32_ok (A : Option Addr) (l : List Nat) (c : Nat) (x : Int) (w : World) (hl : Bys w A l) (hc : l.length ≤ c) (hx : I64 x) :
    Calls Try.prog 11 #[.slice A l.length c, .int .i64 x] w fun e w' => e = .returned (.tuple #[.int .u32 (numV l x 4), .bool (exB l x 4)]) ∧ w = w' := by
  have H : Calls Try.prog 34 #[.slice A l.length c, .int .i64 x] w fun e w' => e = .returned (.tuple #[.int .u32 (numV l x 4), .bool (exB l x 4)]) ∧ w = w' := by
    by_cases h : Ex l.length x 4
    · rw [exB_yes h]
      obtain ⟨k, rfl, hk⟩ := ex_nat (n := 4) h
      rw [numV_yes hk]
      exact number32_yes A l c k w hl hc hk
    · rw [exB_no h, numV_no h]
      exact number32_no A l.length c x hx hl.2.2 h w
  have HN := Lib.hid H
  generalize numV l x 4 = v at HN ⊢
  generalize exB l x 4 = b at HN ⊢
  clear H hl hc hx
  go_enter Try.func11, Try.ntmps11
  go_wp2_with fail
  refine HN.out.mono ?_
  rintro e w' ⟨rfl, rfl⟩
  go_wp2_with fail
  go_ret2
  exact ⟨rfl, rfl⟩

theorem view64_ok (A : Option Addr) (l : List Nat) (c : Nat) (x : Int) (w : World) (hl : Bys w A l) (hc : l.length ≤ c) (hx : I64 x) :
    Calls Try.prog 12 #[.slice A l.length c, .int .i64 x] w fun e w' => e = .returned (.tuple #[.int .u64 (numV l x 8), .bool (exB l x 8)]) ∧ w = w' := by
  have H : Calls Try.prog 35 #[.slice A l.length c, .int .i64 x] w fun e w' => e = .returned (.tuple #[.int .u64 (numV l x 8), .bool (exB l x 8)]) ∧ w = w' := by
    by_cases h : Ex l.length x 8
    · rw [exB_yes h]
      obtain ⟨k, rfl, hk⟩ := ex_nat (n := 8) h
      rw [numV_yes hk]
      exact number64_yes A l c k w hl hc hk
    · rw [exB_no h, numV_no h]
      exact number64_no A l.length c x hx hl.2.2 h w
  have HN := Lib.hid H
  generalize numV l x 8 = v at HN ⊢
  generalize exB l x 8 = b at HN ⊢
  clear H hl hc hx
  go_enter Try.func12, Try.ntmps12
  go_wp2_with fail
  refine HN.out.mono ?_
  rintro e w' ⟨rfl, rfl⟩
  go_wp2_with fail
  go_ret2
  exact ⟨rfl, rfl⟩

theorem exists_ok (A : Option Addr) (l : List Nat) (c : Nat) (x y : Int) (hl : l.length ≤ maxLen) (hx : I64 x) (hy : I64 y) (w : World) :
    Calls Try.prog 17 #[.slice A l.length c, .int .i64 x, .int .i64 y] w fun e w' => e = .returned (.bool (exB l x y)) ∧ w = w' := by
  unfold I64 at hx hy
  unfold maxLen at hl
  generalize hL : l.length = L at *
  have hexb : exB l x y = decide (Ex L x y) := by unfold exB; rw [hL]
  rw [hexb]
  clear hL hexb
  by_cases h1 : x < 0
  · rw [decide_eq_false (by unfold Ex; omega)]
    go_enter Try.func17, Try.ntmps17
    go_wp2_with fail
    go_ret
    exact ⟨by simp <;> omega, rfl⟩
  · by_cases h2 : y < 0
    · rw [decide_eq_false (by unfold Ex; omega)]
      go_enter Try.func17, Try.ntmps17
      go_wp2_with fail
      go_ret
      exact ⟨by simp <;> omega, rfl⟩
    · by_cases h3 : (L : Int) < x
      · rw [decide_eq_false (by unfold Ex; omega)]
        go_enter Try.func17, Try.ntmps17
        go_wp2_with fail
        go_ret
        exact ⟨by simp <;> omega, rfl⟩
      · by_cases h4 : (L : Int) - x < y
        · rw [decide_eq_false (by unfold Ex; omega)]
          go_enter Try.func17, Try.ntmps17
          go_wp2_with fail
          go_ret
          exact ⟨by simp <;> omega, rfl⟩
        · rw [decide_eq_true (by unfold Ex; omega)]
          go_enter Try.func17, Try.ntmps17
          go_wp2_with fail
          go_ret
          exact ⟨by simp <;> omega, rfl⟩

theorem leV_drop {l : List Nat} {k : Nat} (h : k < l.length) : leV (l.drop k) = l.getD k 0 + 256 * leV (l.drop (k + 1)) := by
  rw [List.drop_eq_getElem_cons h, leV_cons]
  simp [List.getD, h]
theorem leV_drop_lt {l : List Nat} (hl : Bs l) (k : Nat) : leV (l.drop k) < 256 ^ (l.length - k) := by
  have := leV_lt (hl.drop k)
  rwa [List.length_drop] at this

set_option maxHeartbeats 1000000 in
theorem rnumber_ok (A : Option Addr) (l : List Nat) (c : Nat) (x : Int) (n : Nat) (hn : n ≤ 8) (w : World) (hl : Bys w A l) (hc : l.length ≤ c) (hx : I64 x) :
    Calls Try.prog 13 #[.slice A l.length c, .int .i64 x, .int .i64 (n : Int)] w fun e w' => e = .returned (.tuple #[.int .u64 (numV l x n), .bool (exB l x n)]) ∧ w = w' := by
  have HE := Lib.hid (exists_ok A l c x n hl.2.2 hx (by unfold I64; omega) w)
  by_cases h : Ex l.length x n
  · rw [exB_yes h] at HE ⊢
    obtain ⟨k, rfl, hk⟩ := ex_nat h
    rw [numV_yes hk]
    have hm := hl.2.2
    unfold maxLen at hm
    have HL := Lib.hid hl
    have HS : Hid (∀ i, i < n → (sub l k n).getD i 0 = l.getD (k + i) 0) := Lib.hid fun i hi => sub_get hk hi
    have HB := Lib.hid (sub_bs hl.2.1 k n)
    have HN := Lib.hid (sub_len hk)
    generalize sub l k n = S at HS HN HB ⊢
    clear hl h
    go_enter Try.func13, Try.ntmps13
    go_wp2_with fail
    refine HE.out.mono ?_
    rintro e w' ⟨rfl, rfl⟩
    go_wp2_with fail
    go_loop [8, 9] (fun x i => ∃ k : Nat, k ≤ n ∧ i = .int .i64 ((k : Int) - 1) ∧ x = .int .u64 (leV (S.drop k) : Nat)) (fun _ i => (intOf i + 1).toNat)
    case atStart => exact ⟨n, by omega, rfl, by rw [List.drop_of_length_le (by rw [HN.out]; exact Nat.le_refl _)]; rfl⟩
    case round =>
      obtain ⟨j, hj, rfl, rfl⟩ := hrel
      by_cases h0 : j = 0
      · subst h0
        have e1 : ((0 : Nat) : Int) - 1 = -1 := by omega
        have e2 : S.drop 0 = S := rfl
        rw [e1, e2]
        clear e1 e2
        go_wp2_with fail
        go_ret2
        exact ⟨rfl, rfl⟩
      · obtain ⟨i, rfl⟩ : ∃ i, j = i + 1 := ⟨j - 1, by omega⟩
        obtain ⟨b, o, rfl, hbo, hcl⟩ := HL.out.1 (k + i) (by omega)
        have hd := leV_drop (l := S) (k := i) (by rw [HN.out]; omega)
        have hb := leV_drop_lt HB.out (i + 1)
        have hb2 : 256 ^ (S.length - (i + 1)) ≤ 256 ^ 7 := Nat.pow_le_pow_right (by omega) (by rw [HN.out]; omega)
        have hg := HB.out.get i
        rw [HS.out i (by omega)] at hd hg
        replace hcl : w.cell? ⟨b, o + (k + i), none⟩ = some (V8 (l.getD (k + i) 0)) := hcl
        unfold V8 at hcl
        have HI : Hid ((256 * (leV (S.drop (i + 1)) : Int)) + (l.getD (k + i) 0 : Int) = (leV (S.drop i) : Int)) := Lib.hid (by omega)
        have e1 : ((i + 1 : Nat) : Int) - 1 = (i : Int) := by omega
        rw [e1]
        obtain ⟨a, hae⟩ : ∃ a : Int, a = (leV (S.drop (i + 1)) : Int) := ⟨_, rfl⟩
        obtain ⟨y, hye⟩ : ∃ y : Int, y = (l.getD (k + i) 0 : Int) := ⟨_, rfl⟩
        have hy0 : 0 ≤ y := by omega
        have hy1 : y < 256 := by omega
        have ha0 : 0 ≤ a := by omega
        have ha1 : a < 72057594037927936 := by omega
        rw [← hae, ← hye] at HI
        rw [← hae]
        rw [← hye] at hcl
        have hki : (k : Int) + (i : Int) < (l.length : Int) := by omega
        clear hae hye e1 hd hb hb2 hg h0
        go_wp2_with fail
        go_round
        case rel => exact ⟨i, by omega, rfl, congrArg (Value.int .u64) HI.out⟩
        case measure => simp [intOf]
  · rw [exB_no h, numV_no h] at *
    clear hl h hc hx
    go_enter Try.func13, Try.ntmps13
    go_wp2_with fail
    refine HE.out.mono ?_
    rintro e w' ⟨rfl, rfl⟩
    go_wp2_with fail
    go_ret2
    exact ⟨rfl, rfl⟩

end Go.Proofs.Ytajkneekehkhbaa
