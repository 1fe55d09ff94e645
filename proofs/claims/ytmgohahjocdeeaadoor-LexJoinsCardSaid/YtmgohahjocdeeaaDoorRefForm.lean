/-
  The reference of layer 1: forms and their inverse. By the verifier.
-/
import Derived.Test.YtmgohahjocdeeaaDoorParse
set_option linter.unusedVariables false
namespace Go.Proofs.YtmgohahjocdeeaaDoor
open Go.RowKit

theorem digs_step (b x : Int) (hb : 2 ≤ b) (h : b ≤ x) : digs b.toNat x.toNat = digs b.toNat (x / b).toNat ++ [dch (x % b).toNat] := by
  obtain ⟨c, rfl⟩ := Int.eq_ofNat_of_zero_le (show 0 ≤ b by omega)
  obtain ⟨y, rfl⟩ := Int.eq_ofNat_of_zero_le (show 0 ≤ x by omega)
  rw [Int.toNat_natCast, Int.toNat_natCast, digs_big (by omega) (by omega), ← Int.natCast_ediv, ← Int.natCast_emod, Int.toNat_natCast, Int.toNat_natCast]

theorem hexcut : ∀ n, n < 16 → (⟨#[48, 49, 50, 51, 52, 53, 54, 55, 56, 57, 97, 98, 99, 100, 101, 102]⟩ : ByteArray).extract n (n + 1) = ⟨[dch n].toArray⟩ := by decide

theorem run_hexcut (d : Int) (h0 : 0 ≤ d) (h1 : d < 16) (w : World) :
    (Instr.slice 9 (.string ⟨#[48, 49, 50, 51, 52, 53, 54, 55, 56, 57, 97, 98, 99, 100, 101, 102]⟩) (some (.int .u64 d)) (some (.int .u64 (d + 1))) none).run Tryd.prog w = .ok (.string ⟨[dch d.toNat].toArray⟩) w := by
  rw [run_slice_string w 9 ⟨#[48, 49, 50, 51, 52, 53, 54, 55, 56, 57, 97, 98, 99, 100, 101, 102]⟩ .u64 .u64 _ _ Tryd.underlying9 (by omega) (by omega) (by show d + 1 ≤ ((16 : Nat) : Int); omega), show (d + 1).toNat = d.toNat + 1 by omega, hexcut d.toNat (by omega)]

set_option maxRecDepth 100000 in
theorem rform_ok (b n : Int) (hb : 2 ≤ b) (hb' : b ≤ 16) (hn : U n) (w : World) :
    Calls Tryd.prog 65 #[.int .u64 n, .int .u64 b] w fun e w' => e = .returned (.string ⟨(digs b.toNat n.toNat).toArray⟩) ∧ Below w.heap.size w w' := by
  have n1 := hn.hi; have n0 := hn.lo
  have HU : Hid (∀ d, digs b.toNat n.toNat = d → d.length ≤ 64) := Lib.hid (fun d hd => by
    rw [← hd]
    refine digs_len (by omega) 63 _ ?_
    exact Nat.lt_of_lt_of_le (m := 2 ^ 64) (by omega) (Nat.pow_le_pow_left (by omega) _))
  have hbz : (b == 0) = false := by rw [beq_eq_false_iff_ne]; omega
  have hbn : ¬ b = 0 := by omega
  go_enter Tryd.func65, Tryd.ntmps65
  go_wp2
  go_loopw [0, 5] (fun t s wr => ∃ (x : Int) (suf : List UInt8), t = .int .u64 x ∧ s = .string ⟨suf.toArray⟩ ∧ U x ∧ Hid (digs b.toNat n.toNat = digs b.toNat x.toNat ++ suf) ∧ Below w.heap.size w wr) (fun t _ _ => (intOf t).toNat)
  case atStart => exact ⟨n, [], rfl, rfl, hn, Lib.hid (by simp), Below.refl _ _⟩
  case round =>
    obtain ⟨x, suf, rfl, rfl, hx, hd, hbw⟩ := hrel
    have x0 := hx.lo; have x1 := hx.hi
    have hlen := HU.out _ hd.out
    rw [List.length_append] at hlen
    have hsuf : suf.length ≤ 64 := by omega
    clear hlen
    by_cases hge : b ≤ x
    · have m0 : 0 ≤ x % b := Int.emod_nonneg _ hbn
      have m1 : x % b < b := Int.emod_lt_of_pos _ (by omega)
      have hw : IntKind.u64.wrap (x % b + 1) = x % b + 1 := IntWalk.u64_in _ (by omega)
      have hstep := digs_step b x hb hge
      have HD : Hid (digs b.toNat n.toNat = digs b.toNat (x / b).toNat ++ (dch (x % b).toNat :: suf)) := Lib.hid (by rw [hd.out, hstep]; simp)
      clear hstep
      have ht : x.tmod b = x % b := Int.tmod_eq_emod_of_nonneg x0
      have hcut := run_hexcut (x % b) m0 (by omega)
      go_wp2_with fail
      go_quiet (fail)
      go_wp2_with fail
      have q0 : 0 ≤ x / b := Int.ediv_nonneg x0 (by omega)
      have q1 : x / b * b ≤ x := Int.ediv_mul_le x hbn
      have q2 : x / b * 2 ≤ x / b * b := Int.mul_le_mul_of_nonneg_left hb q0
      exact ⟨⟨x / b, dch (x % b).toNat :: suf, rfl, congrArg Value.string (ByteArray.mk_append_mk [dch (x % b).toNat] suf), ⟨q0, by omega⟩, HD, below_drewN hbw _⟩, by simp [intOf]; omega⟩
    · have hcut := run_hexcut x x0 (by omega)
      have hone : digs b.toNat x.toNat = [dch x.toNat] := digs_small (by omega)
      have HD : Hid (digs b.toNat n.toNat = dch x.toNat :: suf) := Lib.hid (by rw [hd.out, hone]; rfl)
      clear hone
      have hlt : ¬ b ≤ x := hge
      go_wp2
      go_ret
      rw [HD.out]
      exact ⟨congrArg (fun s => Ending.returned (.string s)) (ByteArray.mk_append_mk [dch x.toNat] suf), hbw⟩

theorem rdecimal_ok (n : Int) (hn : U n) (w : World) :
    Calls Tryd.prog 46 #[.int .u64 n] w fun e w' => e = .returned (.string ⟨(form10 n.toNat).toArray⟩) ∧ Below w.heap.size w w' := by
  have H := Lib.hid (rform_ok 10 n (by omega) (by omega) hn w)
  go_enter Tryd.func46, Tryd.ntmps46
  go_wp2_with (go_at_call 65; refine H.out.mono ?_; rintro e w' ⟨rfl, hb⟩)
  go_ret
  exact ⟨rfl, hb⟩

theorem rhex_ok (n : Int) (hn : U n) (w : World) :
    Calls Tryd.prog 45 #[.int .u64 n] w fun e w' => e = .returned (.string ⟨(form16 n.toNat).toArray⟩) ∧ Below w.heap.size w w' := by
  have H := rform_ok 16 n (by omega) (by omega) hn w
  rw [show (16 : Int).toNat = 16 from rfl] at H
  have hle : (digs 16 n.toNat).length ≤ 16 := digs_len (by omega) 15 _ (by have := hn.hi; omega)
  unfold form16
  generalize digs 16 n.toNat = d at *
  have HH := Lib.hid H
  clear H
  go_enter Tryd.func45, Tryd.ntmps45
  go_wp2_with (go_at_call 65; refine HH.out.mono ?_; rintro e w' ⟨rfl, hb⟩)
  go_ret
  exact ⟨congrArg (fun s => Ending.returned (.string s)) (ByteArray.mk_append_mk [48, 120] d), hb⟩

theorem digit_num (z : Int) (h0 : 0 ≤ z) (h1 : z < 256) (w : World) : Calls Tryd.prog 44 #[.int .u8 z] w fun e w' => e = .returned (.int .u64 (if 48 ≤ z ∧ z ≤ 57 then z - 48 else if 97 ≤ z ∧ z ≤ 102 then z - 97 + 10 else 99)) ∧ w = w' := by
  by_cases h1 : 48 ≤ z ∧ z ≤ 57
  · rw [if_pos h1]
    obtain ⟨a, b⟩ := h1
    go_enter Tryd.func44, Tryd.ntmps44
    go_wp2
    go_ret
    exact ⟨rfl, rfl⟩
  · rw [if_neg h1]
    have hs : z < 48 ∨ 57 < z := by omega
    by_cases h2 : 97 ≤ z ∧ z ≤ 102
    · rw [if_pos h2]
      obtain ⟨a, b⟩ := h2
      have hs' : 57 < z := by omega
      clear h1 hs
      go_enter Tryd.func44, Tryd.ntmps44
      go_wp2
      go_ret
      exact ⟨rfl, rfl⟩
    · rw [if_neg h2]
      have ht : z < 97 ∨ 102 < z := by omega
      clear h1 h2
      rcases hs with hs | hs
      all_goals
        rcases ht with ht | ht
        all_goals
          go_enter Tryd.func44, Tryd.ntmps44
          go_wp2
          try (go_ret; exact ⟨rfl, rfl⟩)

theorem digit_ok (c : UInt8) (w : World) : Calls Tryd.prog 44 #[.int .u8 c.toNat] w fun e w' => e = .returned (.int .u64 (dval c : Nat)) ∧ w = w' := by
  have hc := c.toNat_lt
  refine (digit_num c.toNat (by omega) (by omega) w).mono fun e w' ⟨he, hw⟩ => ⟨?_, hw⟩
  rw [he]
  congr 2
  unfold dval
  split <;> split <;> (try split) <;> (try split) <;> omega

end Go.Proofs.YtmgohahjocdeeaaDoor
