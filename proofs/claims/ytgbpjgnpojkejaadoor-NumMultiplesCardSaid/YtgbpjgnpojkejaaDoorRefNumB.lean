/-
  The reference of layer 1: Mul, Lcm, Align; and num.Align. By the verifier.
-/
import Derived.Test.YtgbpjgnpojkejaaDoorRefNumA
import Derived.StillTailTactics
set_option linter.unusedVariables false
namespace Go.Proofs.YtgbpjgnpojkejaaDoor
open Go.RowKit

theorem quo_top (n z : Int) (hz : 0 < z) (hn : 0 ≤ n) : (18446744073709551615 / z < n) = (18446744073709551616 ≤ n * z) := by
  rw [eq_iff_iff, Int.ediv_lt_iff_lt_mul hz]
  omega

theorem rmul_ok (A : Option Addr) (zs : List Int) (c : Nat) (w : World) (hn : Nums w A zs) :
    Calls Tryd.prog 13 #[.slice A zs.length c] w fun e w' => FoldRes (mulO zs) e ∧ Below w.heap.size w w' := by
  have HN := Lib.hid hn
  have hlen := hn.2.2
  unfold maxLen at hlen
  clear hn
  go_enter Tryd.func13, Tryd.ntmps13
  go_wp2
  go_loop [4] (fun i => ∃ (k : Nat), k ≤ zs.length ∧ i = .int .i64 k ∧ Hid (0 ∉ zs.take k)) (fun i => zs.length - (intOf i).toNat)
  case atStart => exact ⟨0, by omega, rfl, Lib.hid (by simp)⟩
  case round =>
    obtain ⟨k, hk, rfl, hf⟩ := hrel
    by_cases hlt : k < zs.length
    · obtain ⟨b, o, rfl, hb, hc⟩ := HN.out.1 k hlt
      have hin : zs.getD k 0 ∈ zs := by
        have : zs.getD k 0 = zs[k] := by simp [List.getD, hlt]
        rw [this]; exact List.getElem_mem hlt
      have hsn : zs.take (k + 1) = zs.take k ++ [zs.getD k 0] := by
        rw [List.take_succ_eq_append_getElem hlt]; simp [List.getD, hlt]
      replace hc : w.cell? ⟨b, o + k, none⟩ = some (.int .u64 (zs.getD k 0)) := hc
      have hcl : (k : Int) < zs.length := by omega
      generalize zs.getD k 0 = z at *
      have HS := Lib.hid hsn
      have HI := Lib.hid hin
      clear hsn hin
      by_cases hz : z = 0
      · subst hz
        go_wp2
        go_ret2
        exact ⟨congrArg (fun o => Ending.returned (opt o)) (show some 0 = mulO zs from (if_pos HI.out).symm), Below.refl _ _⟩
      · have hzb : (z == 0) = false := by rw [beq_eq_false_iff_ne]; omega
        have HZ := Lib.hid hz
        clear hz
        go_wp2
        go_round
        case rel => exact ⟨k + 1, by omega, by go_num, Lib.hid (by rw [HS.out, List.mem_append]; have h1 := hf.out; have h2 := HZ.out; simp only [List.mem_singleton, not_or]; exact ⟨h1, fun e => h2 e.symm⟩)⟩
        case measure => simp [intOf]; omega
    · have hkk : k = zs.length := by omega
      have hcl : ¬ ((k : Int) < zs.length) := by omega
      have hf' := hf.out
      rw [hkk, List.take_length] at hf'
      have HF : Hid (mulO zs = foldO timesO 1 zs) := Lib.hid (if_neg hf')
      have HM := Lib.hid hf'
      clear hf' hkk
      go_wp2
      go_loopw [5, 6] (fun s i wr => ∃ (k : Nat) (a : Int), k ≤ zs.length ∧ i = .int .i64 k ∧ s = .int .u64 a ∧ U a ∧ Hid (foldO timesO 1 (zs.take k) = some a) ∧ Below w.heap.size w wr) (fun _ i _ => zs.length - (intOf i).toNat)
      case atStart => exact ⟨0, 1, by omega, rfl, rfl, ⟨by omega, by omega⟩, Lib.hid rfl, Below.refl _ _⟩
      case round =>
        obtain ⟨k, a, hk, rfl, rfl, hu, hf, hbw⟩ := hrel
        by_cases hlt : k < zs.length
        · obtain ⟨b, o, rfl, hb, hc⟩ := (HN.out.below (Nat.le_refl _) hbw).1 k hlt
          replace hc : wr.cell? ⟨b, o + k, none⟩ = some (.int .u64 (zs.getD k 0)) := hc
          have hz := HN.out.u k hlt
          have hcl : (k : Int) < zs.length := by omega
          have Hst := foldO_snoc timesO 1 a zs k hlt hf.out
          have hz0 : zs.getD k 0 ≠ 0 := fun e => HM.out (by rw [← e]; have : zs.getD k 0 = zs[k] := by simp [List.getD, hlt]
                                                            rw [this]; exact List.getElem_mem hlt)
          generalize zs.getD k 0 = z at *
          have HST := Lib.hid Hst
          clear Hst
          have a0 := hu.lo; have a1 := hu.hi; have z0 := hz.lo; have z1 := hz.hi
          have hpos : 0 < z := by omega
          have hzb : (z == 0) = false := by rw [beq_eq_false_iff_ne]; omega
          have m0 := Int.mul_nonneg a0 z0
          clear hz0
          by_cases hov : a * z < 18446744073709551616
          · have hd : decide (18446744073709551615 / z < a) = false := by simp only [quo_top a z hpos a0]; simp; omega
            go_wp2_with fail
            go_quiet ((go_at_call 28; exact rtop_quiet _ _))
            go_wp2_with fail
            go_roundw
            case rel => exact ⟨k + 1, a * z, by omega, by go_num, rfl, ⟨m0, hov⟩, Lib.hid (by rw [HST.out]; exact if_pos hov), below_drewN hbw _⟩
            case measure => simp [intOf]; omega
          · have hd : decide (18446744073709551615 / z < a) = true := by simp only [quo_top a z hpos a0]; simp; omega
            go_wp2_with fail
            go_quiet ((go_at_call 28; exact rtop_quiet _ _))
            go_wp2_with fail
            go_ret2
            exact ⟨congrArg (fun o => Ending.returned (opt o)) (show none = mulO zs by rw [HF.out]; exact (foldO_none _ _ _ _ (by rw [HST.out]; exact if_neg (by omega))).symm), below_drewN hbw _⟩
        · have hkk : k = zs.length := by omega
          have hcl : ¬ ((k : Int) < zs.length) := by omega
          have hf' := hf.out
          rw [hkk, List.take_length] at hf'
          have HF' := Lib.hid hf'
          clear hf' hkk
          go_wp2
          go_ret2
          exact ⟨congrArg (fun o => Ending.returned (opt o)) (show some a = mulO zs by rw [HF.out, HF'.out]), hbw⟩

end Go.Proofs.YtgbpjgnpojkejaaDoor
