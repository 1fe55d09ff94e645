/-
  Layer 1 (num): Mul, Align. By the verifier.
-/
import Derived.Test.YtgbpjgnpojkejaaDoorNumD
set_option linter.unusedVariables false
namespace Go.Proofs.YtgbpjgnpojkejaaDoor
open Go.RowKit

theorem index0_ok (A : Option Addr) (zs : List Int) (c : Nat) (w : World) (hn : Nums w A zs) :
    Calls Tryd.prog 39 #[.slice A zs.length c, .int .u64 0] w fun e w' => (∃ i : Int, e = .returned (.int .i64 i) ∧ decide (0 ≤ i) = decide (0 ∈ zs)) ∧ w = w' := by
  have HN := Lib.hid hn
  have hlen := hn.2.2
  unfold maxLen at hlen
  clear hn
  go_enter Tryd.func39, Tryd.ntmps39
  go_wp2
  go_loop [8] (fun i => ∃ (k : Nat), k ≤ zs.length ∧ i = .int .i64 k ∧ Hid (0 ∉ zs.take k)) (fun i => zs.length - (intOf i).toNat)
  case atStart => exact ⟨0, by omega, rfl, Lib.hid (by simp)⟩
  case round =>
    obtain ⟨k, hk, rfl, hf⟩ := hrel
    by_cases hlt : k < zs.length
    · obtain ⟨b, o, rfl, hb, hc⟩ := HN.out.1 k hlt
      have hin : zs.getD k 0 ∈ zs := by
        have : zs.getD k 0 = zs[k] := by simp [List.getD, hlt]
        rw [this]; exact List.getElem_mem hlt
      have hsn : zs.take (k + 1) = zs.take k ++ [zs.getD k 0] := by
        rw [List.take_succ_eq_append_getElem hlt]; simp [List.getD, hlt]
      replace hc : w.cell? ⟨b, o + k, none⟩ = some (.int .u64 (zs.getD k 0)) := hc
      have hcl : (k : Int) < zs.length := by omega
      generalize zs.getD k 0 = z at *
      have HS := Lib.hid hsn
      have HI := Lib.hid hin
      clear hsn hin
      by_cases hz : z = 0
      · subst hz
        go_wp2
        go_ret
        exact ⟨⟨_, rfl, by have := HI.out; simp [this]⟩, rfl⟩
      · have hzb : (0 == z) = false := by rw [beq_eq_false_iff_ne]; omega
        have HZ := Lib.hid hz
        clear hz
        go_wp2
        go_round
        case rel => exact ⟨k + 1, by omega, by go_num, Lib.hid (by rw [HS.out, List.mem_append]; have h1 := hf.out; have h2 := HZ.out; simp only [List.mem_singleton, not_or]; exact ⟨h1, fun e => h2 e.symm⟩)⟩
        case measure => simp [intOf]; omega
    · have hkk : k = zs.length := by omega
      have hcl : ¬ ((k : Int) < zs.length) := by omega
      have hf' := hf.out
      rw [hkk, List.take_length] at hf'
      have HF := Lib.hid hf'
      clear hf' hkk
      go_wp2
      go_ret
      exact ⟨⟨_, rfl, by have := HF.out; simp [this]⟩, rfl⟩

theorem contains0_ok (A : Option Addr) (zs : List Int) (c : Nat) (w : World) (hn : Nums w A zs) :
    Calls Tryd.prog 29 #[.slice A zs.length c, .int .u64 0] w fun e w' => e = .returned (.bool (decide (0 ∈ zs))) ∧ w = w' := by
  have h := Lib.hid (index0_ok A zs c w hn)
  clear hn
  generalize decide (0 ∈ zs) = r at h ⊢
  go_enter Tryd.func29, Tryd.ntmps29
  go_wp2_with ((with_reducible refine h.out.mono ?_); rintro e w1 ⟨⟨i, rfl, hi⟩, rfl⟩; have HI := Lib.hid hi; clear hi)
  go_ret
  exact ⟨by rw [← HI.out]; rfl, rfl⟩

/-- num.Mul -/
def mulO (zs : List Int) : Option Int := if 0 ∈ zs then some 0 else foldO timesO 1 zs

theorem mul_ok (A : Option Addr) (zs : List Int) (c : Nat) (w : World) (hn : Nums w A zs) :
    Calls Tryd.prog 12 #[.slice A zs.length c] w fun e w' => FoldRes (mulO zs) e ∧ Below w.heap.size w w' := by
  have hf := fold_ok _ _ _ times_step 1 ⟨by omega, by omega⟩ trivial A zs c w hn
  have h0 := contains0_ok A zs c w hn
  by_cases hz : 0 ∈ zs
  · have hm : mulO zs = some 0 := if_pos hz
    have hd : decide (0 ∈ zs) = true := by simp [hz]
    rw [hd] at h0
    rw [hm]
    have H0 := Lib.hid h0
    clear hf h0 hn hm hd hz
    go_enter Tryd.func12, Tryd.ntmps12
    go_wp2_with ((with_reducible refine H0.out.mono ?_); rintro e w1 ⟨rfl, rfl⟩)
    go_ret2
    exact ⟨rfl, Below.refl _ _⟩
  · have hm : mulO zs = foldO timesO 1 zs := if_neg hz
    have hd : decide (0 ∈ zs) = false := by simp [hz]
    rw [hd] at h0
    rw [hm]
    generalize foldO timesO 1 zs = r at hf ⊢
    have H0 := Lib.hid h0
    have HF := Lib.hid hf
    clear hf h0 hn hm hd hz
    go_enter Tryd.func12, Tryd.ntmps12
    go_wp2_with fail
    refine H0.out.mono ?_
    rintro e w1 ⟨rfl, rfl⟩
    go_wp2_with fail
    refine HF.out.mono ?_
    rintro e w1 ⟨rfl, hb1⟩
    rcases r with _ | r
    · unfold opt
      go_wp2_with fail
      go_ret2
      exact ⟨rfl, hb1⟩
    · unfold opt
      go_wp2_with fail
      go_ret2
      exact ⟨rfl, hb1⟩

end Go.Proofs.YtgbpjgnpojkejaaDoor
