/-
  The reference of layer 2: Sealed. By the verifier.
-/
import Derived.Test.YtideanaecmoimaaCRSeal
import Derived.Laws.BytesArg
import Derived.Laws.StructEq
set_option linter.unusedVariables false
namespace Go.Proofs.Ytideanaecmoimaa
open Go.RowKit

/-- The string of bytes. -/
def strB (l : List Nat) : ByteArray := strOfNums (l.map fun n : Nat => (n : Int))

theorem strB_list (l : List Nat) : (strB l).toList = l.map UInt8.ofNat := by
  rw [ByteArray.toList_eq]
  unfold strB
  show (strOfNums _).data.toList = _
  rw [strOfNums_data, List.map_map]
  rfl

theorem strB_inj {l m : List Nat} (hl : Bs l) (hm : Bs m) (h : (strB l).toList = (strB m).toList) : l = m := by
  rw [strB_list, strB_list] at h
  induction l generalizing m with
  | nil => cases m with
    | nil => rfl
    | cons y m => cases h
  | cons x l ih => cases m with
    | nil => cases h
    | cons y m =>
      simp only [List.map_cons, List.cons.injEq] at h
      have hx := hl x (List.mem_cons_self ..)
      have hy := hm y (List.mem_cons_self ..)
      have e : x = y := by
        have := congrArg UInt8.toNat h.1
        simp at this
        omega
      rw [e, ih (fun z hz => hl z (List.mem_cons_of_mem _ hz)) (fun z hz => hm z (List.mem_cons_of_mem _ hz)) h.2]

theorem conv_ok {w : World} {A : Option Addr} {l : List Nat} (c : Nat) (h : Bys w A l) : (convert 24 9 (.slice A l.length c)).run Try.prog w = .ok (.string (strB l)) w := by
  by_cases h0 : l.length = 0
  · have hl0 : l = [] := List.eq_nil_of_length_eq_zero h0
    subst hl0
    cases A with
    | none =>
      have e : strB [] = ByteArray.empty := rfl
      rw [e]
      exact run_convert_bytes_nil w 24 5 Try.underlying24 Try.underlying5 0 c 9 Try.underlying9
    | some a =>
      rw [run_convert_bytes_string w 24 9 5 _ _ c Try.underlying24 Try.underlying5 Try.underlying9]
      have hl : (loadCells a 0).run Try.prog w = .ok (([] : List Int).map (Value.int .u8)).toArray w := by simpa using run_loadCells_list (P := Try.prog) w a [] (by simp)
      have e : strB [] = ([] : List Int).foldl (fun r n => r.push (UInt8.ofNat n.toNat)) ByteArray.empty := rfl
      rw [e]
      exact run_bytesToString w a 0 c [] hl
  · obtain ⟨b, o, rfl, hb, -⟩ := h.1 0 (by omega)
    refine run_convert_bytes_arg w 24 5 Try.underlying24 Try.underlying5 b o l.length c (l.map fun n : Nat => (n : Int)) (by simp) (fun i hi => ?_) 9 Try.underlying9
    obtain ⟨b', o', he, -, hc⟩ := h.1 i hi
    injection he with he
    injection he with h1 h2
    subst h1 h2
    rw [hc]
    simp [V8, List.getD, hi]

theorem rsealed_short (A : Option Addr) (n c : Nat) (hn : n < 4) (w : World) :
    Calls Try.prog 19 #[.slice A n c] w fun e w' => e = .returned (.bool false) ∧ Below w.heap.size w w' := by
  have hd : decide (0 ≤ (n : Int) - 4) = false := by simp; omega
  have hd2 : decide ((4 : Int) ≤ (n : Int)) = false := by simp; omega
  go_enter Try.func19, Try.ntmps19
  go_wp2_with fail
  go_quiet (fail)
  go_wp2_with fail
  go_ret
  exact ⟨rfl, below_drewN (Below.refl _ _) _⟩

set_option maxHeartbeats 2000000 in
theorem rsealed_long (b o c : Nat) (p t : List Nat) (ht : t.length = 4) (w : World) (hl : Bys w (some ⟨b, o, none⟩) (p ++ t)) (hc : p.length + 4 ≤ c) (hp : p.length ≤ 100000) :
    Calls Try.prog 19 #[.slice (some ⟨b, o, none⟩) (p.length + 4) c] w fun e w' => e = .returned (.bool (decide (le (crc p) = t))) ∧ Below w.heap.size w w' := by
  have hm := hl.2.2
  unfold maxLen at hm
  rw [List.length_append, ht] at hm
  have hbp : Bs p := fun x hx => hl.2.1 x (List.mem_append_left _ hx)
  have hbt : Bs t := fun x hx => hl.2.1 x (List.mem_append_right _ hx)
  have HP : Hid (∀ W, Below w.heap.size w W → Bys W (some ⟨b, o, none⟩) p) := by
    refine Lib.hid fun W hW => ?_
    have h1 := hl.below (Nat.le_refl _) hW
    refine ⟨fun i hi => ?_, hbp, by unfold maxLen; omega⟩
    obtain ⟨b', o', h2, h3, h4⟩ := h1.1 i (by rw [List.length_append]; omega)
    refine ⟨b', o', h2, h3, ?_⟩
    rw [h4]
    simp [List.getD, List.getElem?_append_left hi]
  have HS : Hid (∀ W, Below w.heap.size w W → (convert 24 9 (.slice (some ⟨b, o, none⟩) (p.length + 4) c)).run Try.prog W = .ok (.string (strB (p ++ t))) W) := by
    refine Lib.hid fun W hW => ?_
    have := conv_ok c (hl.below (Nat.le_refl _) hW)
    rwa [List.length_append, ht] at this
  have HR : Hid (((strB (p ++ le (crc p))).toList == (strB (p ++ t)).toList) = decide (le (crc p) = t)) := by
    refine Lib.hid ?_
    rw [Bool.eq_iff_iff, beq_iff_eq, decide_eq_true_eq]
    constructor
    · intro h
      exact List.append_cancel_left (strB_inj (hbp.append (le_bs _)) (hbp.append hbt) h)
    · intro h
      rw [h]
  obtain ⟨X, hX⟩ : ∃ X, X = strB (p ++ le (crc p)) := ⟨_, rfl⟩
  obtain ⟨Y, hY⟩ : ∃ Y, Y = strB (p ++ t) := ⟨_, rfl⟩
  rw [← hY] at HS HR
  rw [← hX] at HR
  obtain ⟨r, hr⟩ : ∃ r : Bool, r = (X.toList == Y.toList) := ⟨_, rfl⟩
  have hr2 : (X.toList == Y.toList) = r := hr.symm
  have HX := Lib.hid hX
  rw [← hr] at HR
  have q0 := HS.out w (Below.refl _ _)
  have hge : (0 : Int) ≤ (p.length : Int) := by omega
  have hcc : (p.length : Int) ≤ (c : Int) := by omega
  clear hl hbp hbt hX hY hr ht hm
  go_enter Try.func19, Try.ntmps19
  go_wp2_with fail
  have q1 := HS.out w.drew (Below.refl _ _).drew
  go_region_with (go_at_call 17; refine (rseal_ok (some ⟨b, o, none⟩) p c _ (HP.out _ (Below.refl _ _).drew) hp).mono ?_; rintro e w1 ⟨v, rfl, ho, hb1⟩; have hB1 : Below w.heap.size w w1 := (Below.refl w.heap.size w).drew.trans hb1; clear hb1; obtain ⟨A2, c2, rfl, hby, -, -⟩ := ho.shape ((HP.out w (Below.refl _ _)).2.1.append (le_bs _)) (by unfold maxLen; rw [List.length_append, le_len]; omega); have hcv := conv_ok c2 hby; rw [← HX.out, List.length_append] at hcv; have q2 := HS.out _ hB1; clear ho hby)
  all_goals go_wp2_with fail
  all_goals go_ret
  all_goals exact ⟨congrArg (fun r => Ending.returned (.bool r)) HR.out, by assumption⟩
end Go.Proofs.Ytideanaecmoimaa
