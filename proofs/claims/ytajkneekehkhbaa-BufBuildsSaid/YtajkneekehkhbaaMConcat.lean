/-
  slices.Grow at nil and slices.Concat at bytes. By the verifier.
-/
import Derived.Test.YtajkneekehkhbaaMApp
import Derived.WalkKit
set_option linter.unusedVariables false
namespace Go.Proofs.Ytajkneekehkhbaa
open Go.RowKit

theorem OwnB.cut0 {w : World} {base g n c : Nat} {l : List Nat} (h : OwnB w base (.slice (some ⟨g, 0, none⟩) n c) l) : OwnB w base (.slice (some ⟨g, 0, none⟩) 0 c) [] := by
  rcases h.2 with ⟨h0, -⟩ | ⟨g', cap, cur, hv, hb, hg, h1, h2, h3, h4⟩
  · cases h0
  · injection hv with hA hn hc
    injection hA with hA
    injection hA with hA
    subst hA hc
    exact ⟨rfl, .inr ⟨g, c, cur, rfl, hb, hg, Nat.zero_le _, h2, h3, rfl⟩⟩

theorem size_bytes0 : (sizeOf (Try.prog.elem 22)).run Try.prog = fun w => .ok 1 w := by
  funext w
  obtain ⟨i, h2, h3, h4, h5⟩ := info_parts info8
  have e : Try.prog.elem 22 = 5 := by kernel_rfl
  simp [e, sizeOf, typeInfo, h2, h4]

theorem run_cut0 (a : Addr) (n c : Nat) (W : World) : (Instr.slice 22 (.slice (some a) n c) none (some (.int .i64 0)) none).run Try.prog W = .ok (.slice (some a) 0 c) W := by
  rw [run_slice_h W 22 (some a) n c Try.underlying22 .i64 0 (by omega) (by omega), size_bytes0]
  have h0 : a.add 0 = a := by obtain ⟨b, o, s⟩ := a; unfold Addr.add; split <;> simp_all
  by_cases h : c = 0 <;> simp [Result.andThen, sliced, h, h0]

theorem run_cutnil (W : World) : (Instr.slice 22 (.slice none 0 0) none (some (.int .i64 0)) none).run Try.prog W = .ok (.slice none 0 0) W := by
  rw [run_slice_h W 22 none 0 0 Try.underlying22 .i64 0 (by omega) (by omega), size_bytes0]
  simp [Result.andThen, sliced]

set_option maxHeartbeats 1000000 in
theorem grow_nil (n : Nat) (hn : n ≤ 900000) (w : World) :
    Calls Try.prog 50 #[.slice none 0 0, .int .i64 (n : Int)] w fun e w' => NewO w [] e w' := by
  have hn1 : (n : Int) ≤ 900000 := by omega
  have h0 : ¬ (n : Int) < 0 := by omega
  by_cases hz : n = 0
  · subst hz
    go_enter Try.func50, Try.ntmps50
    go_wp2_with fail
    go_ret
    exact ⟨_, rfl, own_empty _ _, Below.refl _ _⟩
  · have hp : (0 : Int) < (n : Int) := by omega
    have HO := Lib.hid (own_empty w w.heap.size)
    have hcn := run_cutnil
    have HN := Lib.hid (And.intro hn hz)
    clear hn hz
    go_enter Try.func50, Try.ntmps50
    go_wp2_with ((with_reducible refine wpList_zeros_t 22 3 Try.underlying22 Try.underlying3 rfl (.tmp 20) (.tmp 21) rfl w.heap.size (.slice none 0 0) [] rfl HO.out n n rfl rfl (by have := HN.out; simp; omega) (Nat.le_refl _) ?_); intro v2 w2 ho2 hg2 hf2; have hb2 := grown_below (Below.refl _ _) HO.out hg2 (Nat.le_refl _); rw [List.nil_append] at ho2; obtain ⟨A2, c2, rfl, hy2, hc2, ha2⟩ := ho2.shape (zeros_bs n) (by rw [List.length_replicate]; have := HN.out; unfold maxLen; omega); obtain ⟨b2, o2, rfl, -, -⟩ := hy2.1 0 (by rw [List.length_replicate]; have := HN.out; omega); have hr2 := run_cut0 ⟨b2, o2, none⟩ n c2; have HO2 := Lib.hid (And.intro ho2 hb2); clear ho2 hg2 hf2 hb2 hy2 hc2 ha2; rw [List.length_replicate])
    go_ret
    refine ⟨_, rfl, ?_, HO2.out.2⟩
    have ho := HO2.out.1
    rcases ho.2 with ⟨h0, -⟩ | ⟨g', cap, cur, hv, -⟩
    · cases h0
    · injection hv with hA hn' hc'
      injection hA with hA
      injection hA with hA1 hA2
      subst hA2
      exact ho.cut0

theorem parts_take (ps : List (List Nat)) (k : Nat) (h : k < ps.length) : (ps.take (k + 1)).flatten = (ps.take k).flatten ++ ps.getD k [] := by
  rw [List.take_succ_eq_append_getElem h, List.flatten_append, List.flatten_singleton]
  congr 1
  simp [List.getD, h]

theorem parts_le (ps : List (List Nat)) (k : Nat) : (ps.take k).flatten.length ≤ ps.flatten.length := by
  conv => rhs; rw [← List.take_append_drop k ps, List.flatten_append, List.length_append]
  omega

set_option maxHeartbeats 2000000 in
theorem concat_ok (A : Option Addr) (ps : List (List Nat)) (c : Nat) (w : World) (hp : Pts w A ps) (hlen : ps.flatten.length ≤ 800000) (hn : ps.length ≤ 1000) :
    Calls Try.prog 42 #[.slice A ps.length c] w fun e w' => NewO w ps.flatten e w' := by
  have HP := Lib.hid hp
  have HL := Lib.hid (And.intro hlen hn)
  have hn1 : (ps.length : Int) ≤ 1000 := by omega
  clear hp hlen hn
  go_enter Try.func42, Try.ntmps42
  go_wp2_with fail
  go_loop [3, 11] (fun s i => ∃ k : Nat, k ≤ ps.length ∧ i = .int .i64 (k : Int) ∧ s = .int .i64 ((ps.take k).flatten.length : Int)) (fun _ i => ps.length - (intOf i).toNat)
  case atStart => exact ⟨0, by omega, rfl, rfl⟩
  case round =>
    obtain ⟨k, hk, rfl, rfl⟩ := hrel
    by_cases hlt : k < ps.length
    · obtain ⟨b, o, Ai, ci, rfl, hcell, hy⟩ := HP.out.1 k hlt
      have hkn : (k : Int) < (ps.length : Int) := by omega
      have hs := parts_take ps k hlt
      have hle := parts_le ps (k + 1)
      have hl2 : (ps.take (k + 1)).flatten.length = (ps.take k).flatten.length + (ps.getD k []).length := by rw [hs, List.length_append]
      have HS := Lib.hid hl2
      have hsum : ((ps.take k).flatten.length : Int) + ((ps.getD k []).length : Int) ≤ 800000 := by have := HL.out; omega
      rw [hl2] at hle
      clear hs hl2 hy hle
      generalize (ps.take k).flatten.length = s at *
      generalize (ps.getD k []).length = m at *
      go_wp2_with fail
      go_round
      case rel => exact ⟨k + 1, by omega, by go_num, by rw [HS.out]; rfl⟩
      case measure => simp [intOf]; omega
    · have hkn : ¬ (k : Int) < (ps.length : Int) := by omega
      have hkk : ps.take k = ps := List.take_of_length_le (by omega)
      rw [hkk]
      clear hkk
      have HG := Lib.hid (grow_nil ps.flatten.length (by have := HL.out; omega) w)
      generalize ps.flatten.length = T at HG ⊢
      go_wp2_with fail
      refine HG.out.mono ?_
      rintro e w1 ⟨v1, rfl, ho1, hb1⟩
      have HO1 := Lib.hid (And.intro ho1 hb1)
      clear ho1 hb1
      go_wp2_with fail
      go_loopw [6, 27] (fun v i wr => ∃ (k : Nat) (sv : Value), sv = v ∧ k ≤ ps.length ∧ i = .int .i64 (k : Int) ∧ Hid (OwnB wr w.heap.size sv (ps.take k).flatten ∧ Below w.heap.size w wr)) (fun _ i _ => ps.length - (intOf i).toNat)
      case atStart => exact ⟨0, v1, rfl, by omega, rfl, HO1⟩
      case round =>
        obtain ⟨k, sv, rfl, hk, rfl, ho⟩ := hrel
        by_cases hlt : k < ps.length
        · have hp2 := HP.out.below (w' := wr) ho.out.2
          obtain ⟨b, o, Ai, ci, rfl, hcell, hy⟩ := hp2.1 k hlt
          have hkn : (k : Int) < (ps.length : Int) := by omega
          have hs := parts_take ps k hlt
          have hle := parts_le ps (k + 1)
          rw [hs, List.length_append] at hle
          have HQ := Lib.hid (And.intro ho.out.1 (And.intro hy (And.intro ho.out.2 (And.intro hs (show (ps.take k).flatten.length + (ps.getD k []).length ≤ 1000000 by have := HL.out; omega)))))
          clear hs hle hy hp2 ho
          generalize ps.getD k [] = m at *
          generalize (ps.take k).flatten = F at *
          go_wp2_with ((with_reducible refine wpList_append_t 22 Try.underlying22 rfl (.tmp 31) (.tmp 32) rfl w.heap.size sv F rfl HQ.out.1 Ai m m.length ci rfl rfl HQ.out.2.1 HQ.out.2.2.2.2 HQ.out.2.2.1.size ?_); intro v2 w2 ho2 hg2 hf2; have hb2 := grown_below HQ.out.2.2.1 HQ.out.1 hg2 HQ.out.2.2.1.size; have HO2 := Lib.hid (And.intro ho2 hb2); clear ho2 hg2 hf2 hb2)
          go_roundw
          case rel => exact ⟨k + 1, v2, rfl, by omega, by go_num, Lib.hid (by rw [HQ.out.2.2.2.1]; exact HO2.out)⟩
          case measure => simp [intOf]; omega
        · have hkn : ¬ (k : Int) < (ps.length : Int) := by omega
          have hkk : ps.take k = ps := List.take_of_length_le (by omega)
          rw [hkk] at ho
          go_wp2_with fail
          go_ret
          exact ⟨sv, rfl, ho.out.1, ho.out.2⟩

end Go.Proofs.Ytajkneekehkhbaa
