/-
  Layer 5 (conf): slices.Grow at nil and slices.Concat at the five kinds of records. By the verifier.
-/
import Derived.Test.YtbfclodkchmfnaaGreatMCat
import Derived.Test.YtbfclodkchmfnaaGreatPMer
set_option linter.unusedVariables false
namespace Go.Proofs.YtbfclodkchmfnaaGreat
open Go.RowKit

theorem nilC (w : World) (base : Nat) (e : TypeId) (size : Nat) : OwnC w base e size (.slice none 0 0) 0 [] := OwnC.nil w base e size

theorem eo_P : Tryz.prog.elem 23 = 36 := by kernel_rfl

set_option maxHeartbeats 1000000 in
theorem grow_P (n : Nat) (hn : n ≤ 900000) (w : World) :
    Calls Tryz.prog 66 #[.slice none 0 0, .int .i64 (n : Int)] w fun e w' => ∃ v, e = .returned v ∧ OwnC w' w.heap.size 36 4 v 0 [] ∧ Below w.heap.size w w' := by
  have hn1 : (n : Int) ≤ 900000 := by omega
  have h0 : ¬ (n : Int) < 0 := by omega
  by_cases hz : n = 0
  · subst hz
    go_enter Tryz.func66, Tryz.ntmps66
    go_wp2_with fail
    go_ret
    exact ⟨_, rfl, nilC _ _ _ _, Below.refl _ _⟩
  · have hp : (0 : Int) < (n : Int) := by omega
    have hcn := run_cutnilg elemP eo_P
    have HN := Lib.hid (And.intro hn hz)
    clear hn hz
    go_enter Tryz.func66, Tryz.ntmps66
    go_wp2_with ((with_reducible refine wpList_zeros_g elemP Tryz.underlying3 rfl (.tmp 20) (.tmp 21) rfl rfl n n rfl rfl (by have := HN.out; omega) (by have := HN.out; omega) ?_); intro c2 w2 ho2 hb2; have hr2 := run_cut0g elemP eo_P ⟨w.heap.size, 0, none⟩ n c2; have HO2 := Lib.hid (And.intro ho2 hb2); clear ho2 hb2)
    go_ret
    exact ⟨_, rfl, HO2.out.1, HO2.out.2⟩

set_option maxHeartbeats 2000000 in
theorem concat_P (A : Option Addr) (ps : List PartC) (c : Nat) (w : World) (hp : PtsC w 4 A ps) (hlen : partsN ps ≤ 800000) (hn : ps.length ≤ 1000) :
    Calls Tryz.prog 23 #[.slice A ps.length c] w fun e w' => ∃ v, e = .returned v ∧ OwnC w' w.heap.size 36 4 v (partsN ps) (partsV ps) ∧ Below w.heap.size w w' := by
  have HP := Lib.hid hp
  have HL := Lib.hid (And.intro hlen hn)
  have hn1 : (ps.length : Int) ≤ 1000 := by omega
  clear hp hlen hn
  go_enter Tryz.func23, Tryz.ntmps23
  go_wp2_with fail
  go_loop [3, 11] (fun s i => ∃ k : Nat, k ≤ ps.length ∧ i = .int .i64 (k : Int) ∧ s = .int .i64 (partsN (ps.take k) : Int)) (fun _ i => ps.length - (intOf i).toNat)
  case atStart => exact ⟨0, by omega, rfl, rfl⟩
  case round =>
    obtain ⟨k, hk, rfl, rfl⟩ := hrel
    by_cases hlt : k < ps.length
    · obtain ⟨b, o, rfl, hcell⟩ := HP.out.1 k hlt
      have hkn : (k : Int) < (ps.length : Int) := by omega
      have hl2 := partsN_succ hlt
      have hle := partsN_le ps (k + 1)
      have HS := Lib.hid hl2
      have hsum : (partsN (ps.take k) : Int) + (ps[k].n : Int) ≤ 800000 := by have := HL.out; omega
      clear hl2 hle
      generalize partsN (ps.take k) = s at *
      generalize ps[k] = p at *
      go_wp2_with fail
      go_round
      case rel => exact ⟨k + 1, by omega, by go_num, by rw [HS.out]; rfl⟩
      case measure => simp [intOf]; omega
    · have hkn : ¬ (k : Int) < (ps.length : Int) := by omega
      have hkk : ps.take k = ps := List.take_of_length_le (by omega)
      rw [hkk]
      clear hkk
      have HG := Lib.hid (grow_P (partsN ps) (by have := HL.out; omega) w)
      generalize hT : partsN ps = T at HG ⊢
      have HT := Lib.hid hT
      clear hT
      go_wp2_with fail
      refine HG.out.mono ?_
      rintro e w1 ⟨v1, rfl, ho1, hb1⟩
      have HO1 := Lib.hid (And.intro ho1 hb1)
      clear ho1 hb1
      go_wp2_with fail
      go_loopw [6, 27] (fun v i wr => ∃ (k : Nat) (sv : Value), sv = v ∧ k ≤ ps.length ∧ i = .int .i64 (k : Int) ∧ Hid (OwnC wr w.heap.size 36 4 sv (partsN (ps.take k)) (partsV (ps.take k)) ∧ Below w.heap.size w wr)) (fun _ i _ => ps.length - (intOf i).toNat)
      case atStart => exact ⟨0, v1, rfl, by omega, rfl, HO1⟩
      case round =>
        obtain ⟨k, sv, rfl, hk, rfl, ho⟩ := hrel
        by_cases hlt : k < ps.length
        · have hp2 := HP.out.below (w' := wr) ho.out.2
          obtain ⟨b, o, rfl, hcell⟩ := hp2.1 k hlt
          have hpk := hp2.2 ps[k] (List.getElem_mem hlt)
          have hkn : (k : Int) < (ps.length : Int) := by omega
          have hle := partsN_le ps (k + 1)
          have hs := partsN_succ hlt
          have HSS := Lib.hid (And.intro hs (partsV_succ hlt))
          have hbd : partsN (ps.take k) + ps[k].n ≤ 1000000 := by have := HL.out; have := HT.out; omega
          have HQ := Lib.hid (And.intro ho.out.1 (And.intro hpk (And.intro ho.out.2 hbd)))
          clear hs hle hp2 ho hpk hbd
          generalize ps[k] = p at *
          generalize partsN (ps.take k) = F at *
          generalize partsV (ps.take k) = G at *
          go_wp2_with ((with_reducible refine wpList_append_any elemP rfl (.tmp 31) (.tmp 32) rfl w.heap.size sv F G rfl HQ.out.1 p.A p.n p.c p.cs rfl HQ.out.2.1.cells HQ.out.2.1.len HQ.out.2.1.one HQ.out.2.1.nil HQ.out.2.2.2 HQ.out.2.2.1.size ?_); intro v2 w2 ho2 hg2 hf2; have hb2 := grown_belowc HQ.out.2.2.1 HQ.out.1 hg2 HQ.out.2.2.1.size; have HO2 := Lib.hid (And.intro ho2 hb2); clear ho2 hg2 hf2 hb2)
          go_roundw
          case rel => exact ⟨k + 1, v2, rfl, by omega, by go_num, Lib.hid (by rw [HSS.out.1, HSS.out.2]; exact HO2.out)⟩
          case measure => simp [intOf]; omega
        · have hkn : ¬ (k : Int) < (ps.length : Int) := by omega
          have hkk : ps.take k = ps := List.take_of_length_le (by omega)
          rw [hkk] at ho
          go_wp2_with fail
          go_ret
          exact ⟨sv, rfl, ho.out.1, ho.out.2⟩

theorem eo_W : Tryz.prog.elem 26 = 45 := by kernel_rfl

set_option maxHeartbeats 1000000 in
theorem grow_W (n : Nat) (hn : n ≤ 900000) (w : World) :
    Calls Tryz.prog 58 #[.slice none 0 0, .int .i64 (n : Int)] w fun e w' => ∃ v, e = .returned v ∧ OwnC w' w.heap.size 45 3 v 0 [] ∧ Below w.heap.size w w' := by
  have hn1 : (n : Int) ≤ 900000 := by omega
  have h0 : ¬ (n : Int) < 0 := by omega
  by_cases hz : n = 0
  · subst hz
    go_enter Tryz.func58, Tryz.ntmps58
    go_wp2_with fail
    go_ret
    exact ⟨_, rfl, nilC _ _ _ _, Below.refl _ _⟩
  · have hp : (0 : Int) < (n : Int) := by omega
    have hcn := run_cutnilg elemW eo_W
    have HN := Lib.hid (And.intro hn hz)
    clear hn hz
    go_enter Tryz.func58, Tryz.ntmps58
    go_wp2_with ((with_reducible refine wpList_zeros_g elemW Tryz.underlying3 rfl (.tmp 20) (.tmp 21) rfl rfl n n rfl rfl (by have := HN.out; omega) (by have := HN.out; omega) ?_); intro c2 w2 ho2 hb2; have hr2 := run_cut0g elemW eo_W ⟨w.heap.size, 0, none⟩ n c2; have HO2 := Lib.hid (And.intro ho2 hb2); clear ho2 hb2)
    go_ret
    exact ⟨_, rfl, HO2.out.1, HO2.out.2⟩

set_option maxHeartbeats 2000000 in
theorem concat_W (A : Option Addr) (ps : List PartC) (c : Nat) (w : World) (hp : PtsC w 3 A ps) (hlen : partsN ps ≤ 800000) (hn : ps.length ≤ 1000) :
    Calls Tryz.prog 20 #[.slice A ps.length c] w fun e w' => ∃ v, e = .returned v ∧ OwnC w' w.heap.size 45 3 v (partsN ps) (partsV ps) ∧ Below w.heap.size w w' := by
  have HP := Lib.hid hp
  have HL := Lib.hid (And.intro hlen hn)
  have hn1 : (ps.length : Int) ≤ 1000 := by omega
  clear hp hlen hn
  go_enter Tryz.func20, Tryz.ntmps20
  go_wp2_with fail
  go_loop [3, 11] (fun s i => ∃ k : Nat, k ≤ ps.length ∧ i = .int .i64 (k : Int) ∧ s = .int .i64 (partsN (ps.take k) : Int)) (fun _ i => ps.length - (intOf i).toNat)
  case atStart => exact ⟨0, by omega, rfl, rfl⟩
  case round =>
    obtain ⟨k, hk, rfl, rfl⟩ := hrel
    by_cases hlt : k < ps.length
    · obtain ⟨b, o, rfl, hcell⟩ := HP.out.1 k hlt
      have hkn : (k : Int) < (ps.length : Int) := by omega
      have hl2 := partsN_succ hlt
      have hle := partsN_le ps (k + 1)
      have HS := Lib.hid hl2
      have hsum : (partsN (ps.take k) : Int) + (ps[k].n : Int) ≤ 800000 := by have := HL.out; omega
      clear hl2 hle
      generalize partsN (ps.take k) = s at *
      generalize ps[k] = p at *
      go_wp2_with fail
      go_round
      case rel => exact ⟨k + 1, by omega, by go_num, by rw [HS.out]; rfl⟩
      case measure => simp [intOf]; omega
    · have hkn : ¬ (k : Int) < (ps.length : Int) := by omega
      have hkk : ps.take k = ps := List.take_of_length_le (by omega)
      rw [hkk]
      clear hkk
      have HG := Lib.hid (grow_W (partsN ps) (by have := HL.out; omega) w)
      generalize hT : partsN ps = T at HG ⊢
      have HT := Lib.hid hT
      clear hT
      go_wp2_with fail
      refine HG.out.mono ?_
      rintro e w1 ⟨v1, rfl, ho1, hb1⟩
      have HO1 := Lib.hid (And.intro ho1 hb1)
      clear ho1 hb1
      go_wp2_with fail
      go_loopw [6, 27] (fun v i wr => ∃ (k : Nat) (sv : Value), sv = v ∧ k ≤ ps.length ∧ i = .int .i64 (k : Int) ∧ Hid (OwnC wr w.heap.size 45 3 sv (partsN (ps.take k)) (partsV (ps.take k)) ∧ Below w.heap.size w wr)) (fun _ i _ => ps.length - (intOf i).toNat)
      case atStart => exact ⟨0, v1, rfl, by omega, rfl, HO1⟩
      case round =>
        obtain ⟨k, sv, rfl, hk, rfl, ho⟩ := hrel
        by_cases hlt : k < ps.length
        · have hp2 := HP.out.below (w' := wr) ho.out.2
          obtain ⟨b, o, rfl, hcell⟩ := hp2.1 k hlt
          have hpk := hp2.2 ps[k] (List.getElem_mem hlt)
          have hkn : (k : Int) < (ps.length : Int) := by omega
          have hle := partsN_le ps (k + 1)
          have hs := partsN_succ hlt
          have HSS := Lib.hid (And.intro hs (partsV_succ hlt))
          have hbd : partsN (ps.take k) + ps[k].n ≤ 1000000 := by have := HL.out; have := HT.out; omega
          have HQ := Lib.hid (And.intro ho.out.1 (And.intro hpk (And.intro ho.out.2 hbd)))
          clear hs hle hp2 ho hpk hbd
          generalize ps[k] = p at *
          generalize partsN (ps.take k) = F at *
          generalize partsV (ps.take k) = G at *
          go_wp2_with ((with_reducible refine wpList_append_any elemW rfl (.tmp 31) (.tmp 32) rfl w.heap.size sv F G rfl HQ.out.1 p.A p.n p.c p.cs rfl HQ.out.2.1.cells HQ.out.2.1.len HQ.out.2.1.one HQ.out.2.1.nil HQ.out.2.2.2 HQ.out.2.2.1.size ?_); intro v2 w2 ho2 hg2 hf2; have hb2 := grown_belowc HQ.out.2.2.1 HQ.out.1 hg2 HQ.out.2.2.1.size; have HO2 := Lib.hid (And.intro ho2 hb2); clear ho2 hg2 hf2 hb2)
          go_roundw
          case rel => exact ⟨k + 1, v2, rfl, by omega, by go_num, Lib.hid (by rw [HSS.out.1, HSS.out.2]; exact HO2.out)⟩
          case measure => simp [intOf]; omega
        · have hkn : ¬ (k : Int) < (ps.length : Int) := by omega
          have hkk : ps.take k = ps := List.take_of_length_le (by omega)
          rw [hkk] at ho
          go_wp2_with fail
          go_ret
          exact ⟨sv, rfl, ho.out.1, ho.out.2⟩

theorem eo_R : Tryz.prog.elem 27 = 47 := by kernel_rfl

set_option maxHeartbeats 1000000 in
theorem grow_R (n : Nat) (hn : n ≤ 900000) (w : World) :
    Calls Tryz.prog 67 #[.slice none 0 0, .int .i64 (n : Int)] w fun e w' => ∃ v, e = .returned v ∧ OwnC w' w.heap.size 47 5 v 0 [] ∧ Below w.heap.size w w' := by
  have hn1 : (n : Int) ≤ 900000 := by omega
  have h0 : ¬ (n : Int) < 0 := by omega
  by_cases hz : n = 0
  · subst hz
    go_enter Tryz.func67, Tryz.ntmps67
    go_wp2_with fail
    go_ret
    exact ⟨_, rfl, nilC _ _ _ _, Below.refl _ _⟩
  · have hp : (0 : Int) < (n : Int) := by omega
    have hcn := run_cutnilg elemR eo_R
    have HN := Lib.hid (And.intro hn hz)
    clear hn hz
    go_enter Tryz.func67, Tryz.ntmps67
    go_wp2_with ((with_reducible refine wpList_zeros_g elemR Tryz.underlying3 rfl (.tmp 20) (.tmp 21) rfl rfl n n rfl rfl (by have := HN.out; omega) (by have := HN.out; omega) ?_); intro c2 w2 ho2 hb2; have hr2 := run_cut0g elemR eo_R ⟨w.heap.size, 0, none⟩ n c2; have HO2 := Lib.hid (And.intro ho2 hb2); clear ho2 hb2)
    go_ret
    exact ⟨_, rfl, HO2.out.1, HO2.out.2⟩

set_option maxHeartbeats 2000000 in
theorem concat_R (A : Option Addr) (ps : List PartC) (c : Nat) (w : World) (hp : PtsC w 5 A ps) (hlen : partsN ps ≤ 800000) (hn : ps.length ≤ 1000) :
    Calls Tryz.prog 24 #[.slice A ps.length c] w fun e w' => ∃ v, e = .returned v ∧ OwnC w' w.heap.size 47 5 v (partsN ps) (partsV ps) ∧ Below w.heap.size w w' := by
  have HP := Lib.hid hp
  have HL := Lib.hid (And.intro hlen hn)
  have hn1 : (ps.length : Int) ≤ 1000 := by omega
  clear hp hlen hn
  go_enter Tryz.func24, Tryz.ntmps24
  go_wp2_with fail
  go_loop [3, 11] (fun s i => ∃ k : Nat, k ≤ ps.length ∧ i = .int .i64 (k : Int) ∧ s = .int .i64 (partsN (ps.take k) : Int)) (fun _ i => ps.length - (intOf i).toNat)
  case atStart => exact ⟨0, by omega, rfl, rfl⟩
  case round =>
    obtain ⟨k, hk, rfl, rfl⟩ := hrel
    by_cases hlt : k < ps.length
    · obtain ⟨b, o, rfl, hcell⟩ := HP.out.1 k hlt
      have hkn : (k : Int) < (ps.length : Int) := by omega
      have hl2 := partsN_succ hlt
      have hle := partsN_le ps (k + 1)
      have HS := Lib.hid hl2
      have hsum : (partsN (ps.take k) : Int) + (ps[k].n : Int) ≤ 800000 := by have := HL.out; omega
      clear hl2 hle
      generalize partsN (ps.take k) = s at *
      generalize ps[k] = p at *
      go_wp2_with fail
      go_round
      case rel => exact ⟨k + 1, by omega, by go_num, by rw [HS.out]; rfl⟩
      case measure => simp [intOf]; omega
    · have hkn : ¬ (k : Int) < (ps.length : Int) := by omega
      have hkk : ps.take k = ps := List.take_of_length_le (by omega)
      rw [hkk]
      clear hkk
      have HG := Lib.hid (grow_R (partsN ps) (by have := HL.out; omega) w)
      generalize hT : partsN ps = T at HG ⊢
      have HT := Lib.hid hT
      clear hT
      go_wp2_with fail
      refine HG.out.mono ?_
      rintro e w1 ⟨v1, rfl, ho1, hb1⟩
      have HO1 := Lib.hid (And.intro ho1 hb1)
      clear ho1 hb1
      go_wp2_with fail
      go_loopw [6, 27] (fun v i wr => ∃ (k : Nat) (sv : Value), sv = v ∧ k ≤ ps.length ∧ i = .int .i64 (k : Int) ∧ Hid (OwnC wr w.heap.size 47 5 sv (partsN (ps.take k)) (partsV (ps.take k)) ∧ Below w.heap.size w wr)) (fun _ i _ => ps.length - (intOf i).toNat)
      case atStart => exact ⟨0, v1, rfl, by omega, rfl, HO1⟩
      case round =>
        obtain ⟨k, sv, rfl, hk, rfl, ho⟩ := hrel
        by_cases hlt : k < ps.length
        · have hp2 := HP.out.below (w' := wr) ho.out.2
          obtain ⟨b, o, rfl, hcell⟩ := hp2.1 k hlt
          have hpk := hp2.2 ps[k] (List.getElem_mem hlt)
          have hkn : (k : Int) < (ps.length : Int) := by omega
          have hle := partsN_le ps (k + 1)
          have hs := partsN_succ hlt
          have HSS := Lib.hid (And.intro hs (partsV_succ hlt))
          have hbd : partsN (ps.take k) + ps[k].n ≤ 1000000 := by have := HL.out; have := HT.out; omega
          have HQ := Lib.hid (And.intro ho.out.1 (And.intro hpk (And.intro ho.out.2 hbd)))
          clear hs hle hp2 ho hpk hbd
          generalize ps[k] = p at *
          generalize partsN (ps.take k) = F at *
          generalize partsV (ps.take k) = G at *
          go_wp2_with ((with_reducible refine wpList_append_any elemR rfl (.tmp 31) (.tmp 32) rfl w.heap.size sv F G rfl HQ.out.1 p.A p.n p.c p.cs rfl HQ.out.2.1.cells HQ.out.2.1.len HQ.out.2.1.one HQ.out.2.1.nil HQ.out.2.2.2 HQ.out.2.2.1.size ?_); intro v2 w2 ho2 hg2 hf2; have hb2 := grown_belowc HQ.out.2.2.1 HQ.out.1 hg2 HQ.out.2.2.1.size; have HO2 := Lib.hid (And.intro ho2 hb2); clear ho2 hg2 hf2 hb2)
          go_roundw
          case rel => exact ⟨k + 1, v2, rfl, by omega, by go_num, Lib.hid (by rw [HSS.out.1, HSS.out.2]; exact HO2.out)⟩
          case measure => simp [intOf]; omega
        · have hkn : ¬ (k : Int) < (ps.length : Int) := by omega
          have hkk : ps.take k = ps := List.take_of_length_le (by omega)
          rw [hkk] at ho
          go_wp2_with fail
          go_ret
          exact ⟨sv, rfl, ho.out.1, ho.out.2⟩

theorem eo_T : Tryz.prog.elem 24 = 39 := by kernel_rfl

set_option maxHeartbeats 1000000 in
theorem grow_T (n : Nat) (hn : n ≤ 900000) (w : World) :
    Calls Tryz.prog 59 #[.slice none 0 0, .int .i64 (n : Int)] w fun e w' => ∃ v, e = .returned v ∧ OwnC w' w.heap.size 39 6 v 0 [] ∧ Below w.heap.size w w' := by
  have hn1 : (n : Int) ≤ 900000 := by omega
  have h0 : ¬ (n : Int) < 0 := by omega
  by_cases hz : n = 0
  · subst hz
    go_enter Tryz.func59, Tryz.ntmps59
    go_wp2_with fail
    go_ret
    exact ⟨_, rfl, nilC _ _ _ _, Below.refl _ _⟩
  · have hp : (0 : Int) < (n : Int) := by omega
    have hcn := run_cutnilg elemT eo_T
    have HN := Lib.hid (And.intro hn hz)
    clear hn hz
    go_enter Tryz.func59, Tryz.ntmps59
    go_wp2_with ((with_reducible refine wpList_zeros_g elemT Tryz.underlying3 rfl (.tmp 20) (.tmp 21) rfl rfl n n rfl rfl (by have := HN.out; omega) (by have := HN.out; omega) ?_); intro c2 w2 ho2 hb2; have hr2 := run_cut0g elemT eo_T ⟨w.heap.size, 0, none⟩ n c2; have HO2 := Lib.hid (And.intro ho2 hb2); clear ho2 hb2)
    go_ret
    exact ⟨_, rfl, HO2.out.1, HO2.out.2⟩

set_option maxHeartbeats 2000000 in
theorem concat_T (A : Option Addr) (ps : List PartC) (c : Nat) (w : World) (hp : PtsC w 6 A ps) (hlen : partsN ps ≤ 800000) (hn : ps.length ≤ 1000) :
    Calls Tryz.prog 21 #[.slice A ps.length c] w fun e w' => ∃ v, e = .returned v ∧ OwnC w' w.heap.size 39 6 v (partsN ps) (partsV ps) ∧ Below w.heap.size w w' := by
  have HP := Lib.hid hp
  have HL := Lib.hid (And.intro hlen hn)
  have hn1 : (ps.length : Int) ≤ 1000 := by omega
  clear hp hlen hn
  go_enter Tryz.func21, Tryz.ntmps21
  go_wp2_with fail
  go_loop [3, 11] (fun s i => ∃ k : Nat, k ≤ ps.length ∧ i = .int .i64 (k : Int) ∧ s = .int .i64 (partsN (ps.take k) : Int)) (fun _ i => ps.length - (intOf i).toNat)
  case atStart => exact ⟨0, by omega, rfl, rfl⟩
  case round =>
    obtain ⟨k, hk, rfl, rfl⟩ := hrel
    by_cases hlt : k < ps.length
    · obtain ⟨b, o, rfl, hcell⟩ := HP.out.1 k hlt
      have hkn : (k : Int) < (ps.length : Int) := by omega
      have hl2 := partsN_succ hlt
      have hle := partsN_le ps (k + 1)
      have HS := Lib.hid hl2
      have hsum : (partsN (ps.take k) : Int) + (ps[k].n : Int) ≤ 800000 := by have := HL.out; omega
      clear hl2 hle
      generalize partsN (ps.take k) = s at *
      generalize ps[k] = p at *
      go_wp2_with fail
      go_round
      case rel => exact ⟨k + 1, by omega, by go_num, by rw [HS.out]; rfl⟩
      case measure => simp [intOf]; omega
    · have hkn : ¬ (k : Int) < (ps.length : Int) := by omega
      have hkk : ps.take k = ps := List.take_of_length_le (by omega)
      rw [hkk]
      clear hkk
      have HG := Lib.hid (grow_T (partsN ps) (by have := HL.out; omega) w)
      generalize hT : partsN ps = T at HG ⊢
      have HT := Lib.hid hT
      clear hT
      go_wp2_with fail
      refine HG.out.mono ?_
      rintro e w1 ⟨v1, rfl, ho1, hb1⟩
      have HO1 := Lib.hid (And.intro ho1 hb1)
      clear ho1 hb1
      go_wp2_with fail
      go_loopw [6, 27] (fun v i wr => ∃ (k : Nat) (sv : Value), sv = v ∧ k ≤ ps.length ∧ i = .int .i64 (k : Int) ∧ Hid (OwnC wr w.heap.size 39 6 sv (partsN (ps.take k)) (partsV (ps.take k)) ∧ Below w.heap.size w wr)) (fun _ i _ => ps.length - (intOf i).toNat)
      case atStart => exact ⟨0, v1, rfl, by omega, rfl, HO1⟩
      case round =>
        obtain ⟨k, sv, rfl, hk, rfl, ho⟩ := hrel
        by_cases hlt : k < ps.length
        · have hp2 := HP.out.below (w' := wr) ho.out.2
          obtain ⟨b, o, rfl, hcell⟩ := hp2.1 k hlt
          have hpk := hp2.2 ps[k] (List.getElem_mem hlt)
          have hkn : (k : Int) < (ps.length : Int) := by omega
          have hle := partsN_le ps (k + 1)
          have hs := partsN_succ hlt
          have HSS := Lib.hid (And.intro hs (partsV_succ hlt))
          have hbd : partsN (ps.take k) + ps[k].n ≤ 1000000 := by have := HL.out; have := HT.out; omega
          have HQ := Lib.hid (And.intro ho.out.1 (And.intro hpk (And.intro ho.out.2 hbd)))
          clear hs hle hp2 ho hpk hbd
          generalize ps[k] = p at *
          generalize partsN (ps.take k) = F at *
          generalize partsV (ps.take k) = G at *
          go_wp2_with ((with_reducible refine wpList_append_any elemT rfl (.tmp 31) (.tmp 32) rfl w.heap.size sv F G rfl HQ.out.1 p.A p.n p.c p.cs rfl HQ.out.2.1.cells HQ.out.2.1.len HQ.out.2.1.one HQ.out.2.1.nil HQ.out.2.2.2 HQ.out.2.2.1.size ?_); intro v2 w2 ho2 hg2 hf2; have hb2 := grown_belowc HQ.out.2.2.1 HQ.out.1 hg2 HQ.out.2.2.1.size; have HO2 := Lib.hid (And.intro ho2 hb2); clear ho2 hg2 hf2 hb2)
          go_roundw
          case rel => exact ⟨k + 1, v2, rfl, by omega, by go_num, Lib.hid (by rw [HSS.out.1, HSS.out.2]; exact HO2.out)⟩
          case measure => simp [intOf]; omega
        · have hkn : ¬ (k : Int) < (ps.length : Int) := by omega
          have hkk : ps.take k = ps := List.take_of_length_le (by omega)
          rw [hkk] at ho
          go_wp2_with fail
          go_ret
          exact ⟨sv, rfl, ho.out.1, ho.out.2⟩

theorem eo_C : Tryz.prog.elem 28 = 34 := by kernel_rfl

set_option maxHeartbeats 1000000 in
theorem grow_C (n : Nat) (hn : n ≤ 900000) (w : World) :
    Calls Tryz.prog 68 #[.slice none 0 0, .int .i64 (n : Int)] w fun e w' => ∃ v, e = .returned v ∧ OwnC w' w.heap.size 34 3 v 0 [] ∧ Below w.heap.size w w' := by
  have hn1 : (n : Int) ≤ 900000 := by omega
  have h0 : ¬ (n : Int) < 0 := by omega
  by_cases hz : n = 0
  · subst hz
    go_enter Tryz.func68, Tryz.ntmps68
    go_wp2_with fail
    go_ret
    exact ⟨_, rfl, nilC _ _ _ _, Below.refl _ _⟩
  · have hp : (0 : Int) < (n : Int) := by omega
    have hcn := run_cutnilg elemC eo_C
    have HN := Lib.hid (And.intro hn hz)
    clear hn hz
    go_enter Tryz.func68, Tryz.ntmps68
    go_wp2_with ((with_reducible refine wpList_zeros_g elemC Tryz.underlying3 rfl (.tmp 20) (.tmp 21) rfl rfl n n rfl rfl (by have := HN.out; omega) (by have := HN.out; omega) ?_); intro c2 w2 ho2 hb2; have hr2 := run_cut0g elemC eo_C ⟨w.heap.size, 0, none⟩ n c2; have HO2 := Lib.hid (And.intro ho2 hb2); clear ho2 hb2)
    go_ret
    exact ⟨_, rfl, HO2.out.1, HO2.out.2⟩

set_option maxHeartbeats 2000000 in
theorem concat_C (A : Option Addr) (ps : List PartC) (c : Nat) (w : World) (hp : PtsC w 3 A ps) (hlen : partsN ps ≤ 800000) (hn : ps.length ≤ 1000) :
    Calls Tryz.prog 25 #[.slice A ps.length c] w fun e w' => ∃ v, e = .returned v ∧ OwnC w' w.heap.size 34 3 v (partsN ps) (partsV ps) ∧ Below w.heap.size w w' := by
  have HP := Lib.hid hp
  have HL := Lib.hid (And.intro hlen hn)
  have hn1 : (ps.length : Int) ≤ 1000 := by omega
  clear hp hlen hn
  go_enter Tryz.func25, Tryz.ntmps25
  go_wp2_with fail
  go_loop [3, 11] (fun s i => ∃ k : Nat, k ≤ ps.length ∧ i = .int .i64 (k : Int) ∧ s = .int .i64 (partsN (ps.take k) : Int)) (fun _ i => ps.length - (intOf i).toNat)
  case atStart => exact ⟨0, by omega, rfl, rfl⟩
  case round =>
    obtain ⟨k, hk, rfl, rfl⟩ := hrel
    by_cases hlt : k < ps.length
    · obtain ⟨b, o, rfl, hcell⟩ := HP.out.1 k hlt
      have hkn : (k : Int) < (ps.length : Int) := by omega
      have hl2 := partsN_succ hlt
      have hle := partsN_le ps (k + 1)
      have HS := Lib.hid hl2
      have hsum : (partsN (ps.take k) : Int) + (ps[k].n : Int) ≤ 800000 := by have := HL.out; omega
      clear hl2 hle
      generalize partsN (ps.take k) = s at *
      generalize ps[k] = p at *
      go_wp2_with fail
      go_round
      case rel => exact ⟨k + 1, by omega, by go_num, by rw [HS.out]; rfl⟩
      case measure => simp [intOf]; omega
    · have hkn : ¬ (k : Int) < (ps.length : Int) := by omega
      have hkk : ps.take k = ps := List.take_of_length_le (by omega)
      rw [hkk]
      clear hkk
      have HG := Lib.hid (grow_C (partsN ps) (by have := HL.out; omega) w)
      generalize hT : partsN ps = T at HG ⊢
      have HT := Lib.hid hT
      clear hT
      go_wp2_with fail
      refine HG.out.mono ?_
      rintro e w1 ⟨v1, rfl, ho1, hb1⟩
      have HO1 := Lib.hid (And.intro ho1 hb1)
      clear ho1 hb1
      go_wp2_with fail
      go_loopw [6, 27] (fun v i wr => ∃ (k : Nat) (sv : Value), sv = v ∧ k ≤ ps.length ∧ i = .int .i64 (k : Int) ∧ Hid (OwnC wr w.heap.size 34 3 sv (partsN (ps.take k)) (partsV (ps.take k)) ∧ Below w.heap.size w wr)) (fun _ i _ => ps.length - (intOf i).toNat)
      case atStart => exact ⟨0, v1, rfl, by omega, rfl, HO1⟩
      case round =>
        obtain ⟨k, sv, rfl, hk, rfl, ho⟩ := hrel
        by_cases hlt : k < ps.length
        · have hp2 := HP.out.below (w' := wr) ho.out.2
          obtain ⟨b, o, rfl, hcell⟩ := hp2.1 k hlt
          have hpk := hp2.2 ps[k] (List.getElem_mem hlt)
          have hkn : (k : Int) < (ps.length : Int) := by omega
          have hle := partsN_le ps (k + 1)
          have hs := partsN_succ hlt
          have HSS := Lib.hid (And.intro hs (partsV_succ hlt))
          have hbd : partsN (ps.take k) + ps[k].n ≤ 1000000 := by have := HL.out; have := HT.out; omega
          have HQ := Lib.hid (And.intro ho.out.1 (And.intro hpk (And.intro ho.out.2 hbd)))
          clear hs hle hp2 ho hpk hbd
          generalize ps[k] = p at *
          generalize partsN (ps.take k) = F at *
          generalize partsV (ps.take k) = G at *
          go_wp2_with ((with_reducible refine wpList_append_any elemC rfl (.tmp 31) (.tmp 32) rfl w.heap.size sv F G rfl HQ.out.1 p.A p.n p.c p.cs rfl HQ.out.2.1.cells HQ.out.2.1.len HQ.out.2.1.one HQ.out.2.1.nil HQ.out.2.2.2 HQ.out.2.2.1.size ?_); intro v2 w2 ho2 hg2 hf2; have hb2 := grown_belowc HQ.out.2.2.1 HQ.out.1 hg2 HQ.out.2.2.1.size; have HO2 := Lib.hid (And.intro ho2 hb2); clear ho2 hg2 hf2 hb2)
          go_roundw
          case rel => exact ⟨k + 1, v2, rfl, by omega, by go_num, Lib.hid (by rw [HSS.out.1, HSS.out.2]; exact HO2.out)⟩
          case measure => simp [intOf]; omega
        · have hkn : ¬ (k : Int) < (ps.length : Int) := by omega
          have hkk : ps.take k = ps := List.take_of_length_le (by omega)
          rw [hkk] at ho
          go_wp2_with fail
          go_ret
          exact ⟨sv, rfl, ho.out.1, ho.out.2⟩

/-- Two parts in a literal. -/
theorem pts2 {W : World} {base : Nat} {e : TypeId} {v : Value} {size : Nat} {p1 p2 : PartC} (r : OwnC W base e 1 v 2 [.slice p1.A p1.n p1.c, .slice p2.A p2.n p2.c]) (h1 : PartOk W size p1) (h2 : PartOk W size p2) : ∃ A c, v = .slice A 2 c ∧ PtsC W size A [p1, p2] := by
  obtain ⟨A, c, rfl, hc, -⟩ := r.cells
  refine ⟨A, c, rfl, fun k hk => ?_, fun p hp => ?_⟩
  · obtain ⟨b, o, hA, -, hcell⟩ := hc k (by simpa using hk)
    refine ⟨b, o, hA, ?_⟩
    rw [hcell]
    have hk2 : k < 2 := by simpa using hk
    rcases (by omega : k = 0 ∨ k = 1) with rfl | rfl <;> rfl
  · rcases List.mem_cons.1 hp with rfl | hp
    · exact h1
    · rcases List.mem_cons.1 hp with rfl | hp
      · exact h2
      · cases hp

theorem recs_part {α : Type} {w : World} {A : Option Addr} {cap : Nat} {l : List α} {f : α → List Value} (h : Recs w A cap l f) (k : Nat) (hk : ∀ x, (f x).length = k) (h1 : ∀ x, ∀ v ∈ f x, v.oneCell' = true) : PartOk w k ⟨A, l.length, cap, l.flatMap f⟩ :=
  ⟨h.cells, flat_len f k hk l, flat_one h1 l, h.nil⟩

theorem cat2_P {W : World} {base : Nat} {v : Value} {p1 p2 : PartC} (r : OwnC W base 23 1 v 2 [.slice p1.A p1.n p1.c, .slice p2.A p2.n p2.c]) (h1 : PartOk W 4 p1) (h2 : PartOk W 4 p2) (hl : p1.n + p2.n ≤ 800000) :
    Calls Tryz.prog 23 #[v] W fun e w' => ∃ v', e = .returned v' ∧ OwnC w' W.heap.size 36 4 v' (p1.n + p2.n) (p1.cs ++ p2.cs) ∧ Below W.heap.size W w' := by
  obtain ⟨A, c, rfl, hp⟩ := pts2 r h1 h2
  refine (concat_P A [p1, p2] c W hp (by simpa [partsN] using hl) (by simp)).mono ?_
  rintro e w' ⟨v', rfl, ho, hb⟩
  exact ⟨v', rfl, by simpa [partsN, partsV] using ho, hb⟩

theorem cat2_W {W : World} {base : Nat} {v : Value} {p1 p2 : PartC} (r : OwnC W base 26 1 v 2 [.slice p1.A p1.n p1.c, .slice p2.A p2.n p2.c]) (h1 : PartOk W 3 p1) (h2 : PartOk W 3 p2) (hl : p1.n + p2.n ≤ 800000) :
    Calls Tryz.prog 20 #[v] W fun e w' => ∃ v', e = .returned v' ∧ OwnC w' W.heap.size 45 3 v' (p1.n + p2.n) (p1.cs ++ p2.cs) ∧ Below W.heap.size W w' := by
  obtain ⟨A, c, rfl, hp⟩ := pts2 r h1 h2
  refine (concat_W A [p1, p2] c W hp (by simpa [partsN] using hl) (by simp)).mono ?_
  rintro e w' ⟨v', rfl, ho, hb⟩
  exact ⟨v', rfl, by simpa [partsN, partsV] using ho, hb⟩

theorem cat2_R {W : World} {base : Nat} {v : Value} {p1 p2 : PartC} (r : OwnC W base 27 1 v 2 [.slice p1.A p1.n p1.c, .slice p2.A p2.n p2.c]) (h1 : PartOk W 5 p1) (h2 : PartOk W 5 p2) (hl : p1.n + p2.n ≤ 800000) :
    Calls Tryz.prog 24 #[v] W fun e w' => ∃ v', e = .returned v' ∧ OwnC w' W.heap.size 47 5 v' (p1.n + p2.n) (p1.cs ++ p2.cs) ∧ Below W.heap.size W w' := by
  obtain ⟨A, c, rfl, hp⟩ := pts2 r h1 h2
  refine (concat_R A [p1, p2] c W hp (by simpa [partsN] using hl) (by simp)).mono ?_
  rintro e w' ⟨v', rfl, ho, hb⟩
  exact ⟨v', rfl, by simpa [partsN, partsV] using ho, hb⟩

theorem cat2_T {W : World} {base : Nat} {v : Value} {p1 p2 : PartC} (r : OwnC W base 24 1 v 2 [.slice p1.A p1.n p1.c, .slice p2.A p2.n p2.c]) (h1 : PartOk W 6 p1) (h2 : PartOk W 6 p2) (hl : p1.n + p2.n ≤ 800000) :
    Calls Tryz.prog 21 #[v] W fun e w' => ∃ v', e = .returned v' ∧ OwnC w' W.heap.size 39 6 v' (p1.n + p2.n) (p1.cs ++ p2.cs) ∧ Below W.heap.size W w' := by
  obtain ⟨A, c, rfl, hp⟩ := pts2 r h1 h2
  refine (concat_T A [p1, p2] c W hp (by simpa [partsN] using hl) (by simp)).mono ?_
  rintro e w' ⟨v', rfl, ho, hb⟩
  exact ⟨v', rfl, by simpa [partsN, partsV] using ho, hb⟩

theorem cat2_C {W : World} {base : Nat} {v : Value} {p1 p2 : PartC} (r : OwnC W base 28 1 v 2 [.slice p1.A p1.n p1.c, .slice p2.A p2.n p2.c]) (h1 : PartOk W 3 p1) (h2 : PartOk W 3 p2) (hl : p1.n + p2.n ≤ 800000) :
    Calls Tryz.prog 25 #[v] W fun e w' => ∃ v', e = .returned v' ∧ OwnC w' W.heap.size 34 3 v' (p1.n + p2.n) (p1.cs ++ p2.cs) ∧ Below W.heap.size W w' := by
  obtain ⟨A, c, rfl, hp⟩ := pts2 r h1 h2
  refine (concat_C A [p1, p2] c W hp (by simpa [partsN] using hl) (by simp)).mono ?_
  rintro e w' ⟨v', rfl, ho, hb⟩
  exact ⟨v', rfl, by simpa [partsN, partsV] using ho, hb⟩

end Go.Proofs.YtbfclodkchmfnaaGreat
