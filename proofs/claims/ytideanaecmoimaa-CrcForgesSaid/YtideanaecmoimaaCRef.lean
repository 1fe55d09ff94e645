/-
  The reference of layer 2: elements and sums, bit by bit. By the verifier.
-/
import Derived.Test.YtideanaecmoimaaCReg
import Derived.Deep.LoopGhost
set_option linter.unusedVariables false
namespace Go.Proofs.Ytideanaecmoimaa
open Go.RowKit

set_option maxHeartbeats 400000 in
theorem element_ok (n : Nat) (h : n < 256) (w : World) :
    Calls Try.prog 13 #[.int .i64 (n : Int)] w fun e w' => e = .returned (.int .u32 (E n : Nat)) ∧ w = w' := by
  obtain ⟨z, hz⟩ : ∃ z : Int, z = (n : Int) := ⟨_, rfl⟩
  have z0 : 0 ≤ z := by omega
  have z1 : z < 256 := by omega
  have hw : IntKind.u32.wrap z = z := by rw [IntKind.wrap_u32']; omega
  have HZ := Lib.hid hz
  rw [← hz]
  clear hz
  go_enter Try.func13, Try.ntmps13
  go_wp2_with fail
  go_loop [3, 4] (fun r i => ∃ k : Nat, k ≤ 8 ∧ i = .int .i64 (k : Int) ∧ r = V32 (stk k n)) (fun _ i => 8 - (intOf i).toNat)
  case atStart => exact ⟨0, by omega, rfl, by rw [HZ.out]; rfl⟩
  case round =>
    obtain ⟨k, hk, rfl, rfl⟩ := hrel
    by_cases hlt : k < 8
    · have hkl : (k : Int) < 8 := by omega
      have hs : stk k n < 4294967296 := stk_lt k (by omega)
      have HS := Lib.hid (step_ok (stk k n) · hs)
      unfold V32
      clear hs
      go_wp2_with (with_reducible refine (HS.out _).mono ?_; rintro e w' ⟨rfl, rfl⟩)
      go_round
      case rel => exact ⟨k + 1, by omega, by go_num, by rw [stk_succ]⟩
      case measure => simp [intOf]; omega
    · have hk8 : k = 8 := by omega
      subst hk8
      unfold V32
      have e : stk 8 n = E n := rfl
      rw [e]
      clear e hlt hk
      go_wp2_with fail
      go_ret
      exact ⟨rfl, rfl⟩

set_option maxHeartbeats 1000000 in
theorem rsum_ok (A : Option Addr) (l : List Nat) (c : Nat) (w : World) (hl : Bys w A l) :
    Calls Try.prog 12 #[.slice A l.length c] w fun e w' => e = .returned (.int .u32 (crc l : Nat)) ∧ w = w' := by
  have hm := hl.2.2
  unfold maxLen at hm
  have HL := Lib.hid hl
  clear hl
  go_enter Try.func12, Try.ntmps12
  go_wp2_with fail
  go_loop [3, 4] (fun r i => ∃ k : Nat, k ≤ l.length ∧ i = .int .i64 (k : Int) ∧ r = V32 (fo 4294967295 (l.take k))) (fun _ i => l.length - (intOf i).toNat)
  case atStart => exact ⟨0, by omega, rfl, rfl⟩
  case round =>
    obtain ⟨k, hk, rfl, rfl⟩ := hrel
    have hf : fo 4294967295 (l.take k) < 4294967296 := fo_lt (by omega) (HL.out.2.1.take k)
    by_cases hlt : k < l.length
    · obtain ⟨b, o, rfl, hbo, hcl⟩ := HL.out.1 k hlt
      have hx : l.getD k 0 < 256 := HL.out.2.1.get k
      have hsn := fo_snoc 4294967295 l k hlt
      have hkl : (k : Int) < l.length := by omega
      replace hcl : w.cell? ⟨b, o + k, none⟩ = some (V8 (l.getD k 0)) := hcl
      unfold V32
      unfold V8 at hcl
      generalize l.getD k 0 = x at *
      generalize fo 4294967295 (l.take k) = f at *
      have e1 : bits .xor .u32 (f : Int) (x : Int) = ((f ^^^ x : Nat) : Int) := xor32 _ _ hf (by omega)
      have hfx : f ^^^ x < 4294967296 := xor_lt32 hf (by omega)
      unfold upd at hsn
      generalize f ^^^ x = y at *
      have HSN := Lib.hid hsn
      have hxw : IntKind.u32.wrap (x : Int) = (x : Int) := by rw [IntKind.wrap_u32']; omega
      clear hsn
      go_wp2_with fail
      go_loop [3, 5] (fun r j => ∃ n : Nat, n ≤ 8 ∧ j = .int .i64 (n : Int) ∧ r = V32 (stk n y)) (fun _ j => 8 - (intOf j).toNat)
      case atStart => exact ⟨0, by omega, rfl, rfl⟩
      case round =>
        obtain ⟨n, hn, rfl, rfl⟩ := hrel
        by_cases hlt8 : n < 8
        · have hnl : (n : Int) < 8 := by omega
          have hs : stk n y < 4294967296 := stk_lt n hfx
          have HS := Lib.hid (step_ok (stk n y) · hs)
          unfold V32
          clear hs e1
          go_wp2_with (with_reducible refine (HS.out _).mono ?_; rintro e w' ⟨rfl, rfl⟩)
          go_round
          case rel => exact ⟨n + 1, by omega, by go_num, by rw [stk_succ]⟩
          case measure => simp [intOf]; omega
        · have hn8 : n = 8 := by omega
          subst hn8
          unfold V32
          rw [← HSN.out]
          clear hlt8 hn e1
          generalize hg : fo 4294967295 (l.take (k + 1)) = g at *
          have HG := Lib.hid hg
          clear hg
          go_wp2_with fail
          go_round
          case rel => exact ⟨k + 1, by omega, by go_num, by rw [HG.out]⟩
          case measure => simp [intOf]; omega
    · have hkk : k = l.length := by omega
      have hkl : ¬ (k : Int) < l.length := by omega
      have hn := not32 _ hf
      rw [hkk, List.take_length] at hn ⊢
      have HN := Lib.hid hn
      unfold V32
      generalize hg : fo 4294967295 l = g at *
      have HG := Lib.hid hg
      clear hg hn hkk hf
      go_wp2_with fail
      go_ret
      exact ⟨by unfold crc; rw [HG.out]; exact congrArg (fun q : Int => Ending.returned (.int .u32 q)) HN.out, rfl⟩

end Go.Proofs.Ytideanaecmoimaa
