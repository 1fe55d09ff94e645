/-
  Layer 2 (crc): the example of the chapter holds. By the verifier.
-/
import Derived.Test.YtideanaecmoimaaCRSealed
import Derived.Lib.SlBytesConst
set_option linter.unusedVariables false
namespace Go.Proofs.Ytideanaecmoimaa
open Go.RowKit

/-- Are these sealed bytes? -/
def sealedB (l : List Nat) : Bool := decide (4 ≤ l.length) && decide (le (crc (l.take (l.length - 4))) = l.drop (l.length - 4))

theorem sealedB_append (p t : List Nat) (ht : t.length = 4) : sealedB (p ++ t) = decide (le (crc p) = t) := by
  unfold sealedB
  have e : (p ++ t).length - 4 = p.length := by rw [List.length_append, ht]; omega
  rw [e, List.take_left, List.drop_left, decide_eq_true (by rw [List.length_append]; omega), Bool.true_and]

theorem sealedB_short {l : List Nat} (h : l.length < 4) : sealedB l = false := by
  unfold sealedB
  rw [decide_eq_false (by omega), Bool.false_and]

theorem parts4 {l : List Nat} (h : 4 ≤ l.length) : ∃ p t, l = p ++ t ∧ t.length = 4 := ⟨l.take (l.length - 4), l.drop (l.length - 4), (List.take_append_drop _ _).symm, by rw [List.length_drop]; omega⟩

theorem sealed_ok (A : Option Addr) (l : List Nat) (c : Nat) (w : World) (hl : Bys w A l) (hc : l.length ≤ c) :
    Calls Try.prog 18 #[.slice A l.length c] w fun e w' => e = .returned (.bool (sealedB l)) ∧ Below w.heap.size w w' := by
  by_cases h : 4 ≤ l.length
  · obtain ⟨p, t, rfl, ht⟩ := parts4 h
    rw [sealedB_append p t ht]
    obtain ⟨b, o, rfl, -, -⟩ := hl.1 0 (by omega)
    rw [List.length_append, ht] at hc ⊢
    match t, ht with
    | [x0, x1, x2, x3], _ => exact sealed_long b o c p x0 x1 x2 x3 w hl hc
  · rw [sealedB_short (by omega)]
    exact sealed_short A l.length c (by omega) w

theorem rsealed_ok (A : Option Addr) (l : List Nat) (c : Nat) (w : World) (hl : Bys w A l) (hc : l.length ≤ c) (hn : l.length ≤ 100000) :
    Calls Try.prog 19 #[.slice A l.length c] w fun e w' => e = .returned (.bool (sealedB l)) ∧ Below w.heap.size w w' := by
  by_cases h : 4 ≤ l.length
  · obtain ⟨p, t, rfl, ht⟩ := parts4 h
    rw [sealedB_append p t ht]
    obtain ⟨b, o, rfl, -, -⟩ := hl.1 0 (by omega)
    rw [List.length_append, ht] at hc hn ⊢
    exact rsealed_long b o c p t ht w hl hc (by omega)
  · rw [sealedB_short (by omega)]
    exact rsealed_short A l.length c (by omega) w

theorem seal_sealed (l : List Nat) : sealedB (l ++ le (crc l)) = true := by
  rw [sealedB_append _ _ (le_len _), decide_eq_true rfl]

theorem bys_lit (w : World) (C : Array Value) (fr : Nat × Nat) (l : List Nat) (hC : C = (l.map V8).toArray) (hl : Bs l) (hm : l.length ≤ maxLen) : Bys (w.alloc (.cells C 5 fr)) (some ⟨w.heap.size, 0, none⟩) l := by
  refine ⟨fun i hi => ⟨w.heap.size, 0, rfl, by simp, ?_⟩, hl, hm⟩
  rw [cell_of_row _ _ _ _ _ _ (heap_alloc_new w _), hC, Nat.zero_add]
  simp [List.getD, hi]

theorem sum_none (w : World) : Calls Try.prog 11 #[.slice none 0 0] w fun e w' => e = .returned (.int .u32 0) ∧ Below w.heap.size w w' :=
  (sum_parts none [] 0 w (fun W hW => ⟨fun i hi => absurd hi (by simp), by unfold maxLen; simp⟩) (fun x hx => by simp at hx)).mono fun e w' ⟨he, hb⟩ => ⟨he, hb⟩

set_option maxHeartbeats 1000000 in
theorem alive_ok (w : World) :
    Calls Try.prog 9 #[] w fun e w' => e = .returned (.bool true) ∧ Below w.heap.size w w' := by
  have kc := fun (w : World) (C : Array Value) (n c : Nat) => Lib.run_convert_bytes_const (P := Try.prog) w 24 5 C n c Try.underlying24 Try.underlying5
  have HS1 : Hid (Calls Try.prog 11 #[.slice (some ⟨w.heap.size + 1, 0, none⟩) 1 1] ((w.alloc (.cells #[.int .u8 49, .int .u8 50, .int .u8 51, .int .u8 52, .int .u8 53, .int .u8 54, .int .u8 55, .int .u8 56, .int .u8 57] 5 (9, 10))).alloc (.cells #[.slice (some ⟨w.heap.size, 0, none⟩) 9 9] 24)) (fun e w' => e = .returned (.int .u32 3421780262) ∧ Below w.heap.size w w')) := by
    have h0 : Below w.heap.size w (w.alloc (.cells #[.int .u8 49, .int .u8 50, .int .u8 51, .int .u8 52, .int .u8 53, .int .u8 54, .int .u8 55, .int .u8 56, .int .u8 57] 5 (9, 10))) := (Below.refl _ _).alloc (Nat.le_refl _) _
    have hb : Bys (w.alloc (.cells #[.int .u8 49, .int .u8 50, .int .u8 51, .int .u8 52, .int .u8 53, .int .u8 54, .int .u8 55, .int .u8 56, .int .u8 57] 5 (9, 10))) (some ⟨w.heap.size, 0, none⟩) [49, 50, 51, 52, 53, 54, 55, 56, 57] := bys_lit w _ _ _ rfl (by intro x hx; simp at hx; omega) (by unfold maxLen; simp)
    have h1 := sum1_ok (w.alloc (.cells #[.int .u8 49, .int .u8 50, .int .u8 51, .int .u8 52, .int .u8 53, .int .u8 54, .int .u8 55, .int .u8 56, .int .u8 57] 5 (9, 10))) (some ⟨w.heap.size, 0, none⟩) [49, 50, 51, 52, 53, 54, 55, 56, 57] 9 hb
    rw [show (w.alloc (.cells #[.int .u8 49, .int .u8 50, .int .u8 51, .int .u8 52, .int .u8 53, .int .u8 54, .int .u8 55, .int .u8 56, .int .u8 57] 5 (9, 10))).heap.size = w.heap.size + 1 by simp, crc_digits] at h1
    exact Lib.hid (h1.mono fun e w' ⟨he, hbw⟩ => ⟨he, h0.trans (hbw.mono (Nat.le_succ _))⟩)
  have HS2 : Hid (∀ W : World, Calls Try.prog 15 #[.slice (some ⟨W.heap.size, 0, none⟩) 2 2] (W.alloc (.cells #[.int .u8 97, .int .u8 98] 5 (2, 3))) (fun e w' => ∃ B, e = .returned (.slice (some ⟨B, 0, none⟩) 6 6) ∧ BRow w' B ([97, 98] ++ le (crc [97, 98])) ∧ Below W.heap.size W w')) := by
    refine Lib.hid fun W => ?_
    have hb : Bys (W.alloc (.cells #[.int .u8 97, .int .u8 98] 5 (2, 3))) (some ⟨W.heap.size, 0, none⟩) [97, 98] := bys_lit W _ _ _ rfl (by intro x hx; simp at hx; omega) (by unfold maxLen; simp)
    have h0 : Below W.heap.size W (W.alloc (.cells #[.int .u8 97, .int .u8 98] 5 (2, 3))) := (Below.refl _ _).alloc (Nat.le_refl _) _
    refine (seal_ok (some ⟨W.heap.size, 0, none⟩) [97, 98] 2 (W.alloc (.cells #[.int .u8 97, .int .u8 98] 5 (2, 3))) hb (by simp)).mono ?_
    rintro e w' ⟨B, he, hr, hB, hbw⟩
    exact ⟨B, he, hr, h0.trans (hbw.mono h0.size)⟩
  have HS3 : Hid (∀ (W : World) (B : Nat), BRow W B ([97, 98] ++ le (crc [97, 98])) → Calls Try.prog 18 #[.slice (some ⟨B, 0, none⟩) 6 6] W (fun e w' => e = .returned (.bool true) ∧ Below W.heap.size W w')) := by
    refine Lib.hid fun W B hr => ?_
    have hb := hr.bys (by intro x hx; rcases List.mem_append.1 hx with h | h; (· simp at h; omega); (· exact le_bs _ x h)) (by rw [List.length_append, le_len]; unfold maxLen; simp)
    have := sealed_ok (some ⟨B, 0, none⟩) ([97, 98] ++ le (crc [97, 98])) 6 W hb (by rw [List.length_append, le_len]; exact Nat.le_refl _)
    rw [seal_sealed] at this
    exact this
  go_enter Try.func9, Try.ntmps9
  go_wp2_with fail
  refine HS1.out.mono ?_
  rintro e w1 ⟨rfl, hb1⟩
  go_wp2_with fail
  refine (sum_none w1).mono ?_
  rintro e w2 ⟨rfl, hb2⟩
  have hB2 := hb1.trans (hb2.mono hb1.size)
  clear hb1 hb2
  go_wp2_with fail
  refine (HS2.out w2).mono ?_
  rintro e w3 ⟨B, rfl, hr, hb3⟩
  have hB3 := hB2.trans (hb3.mono hB2.size)
  have HR := Lib.hid hr
  clear hB2 hb3 hr
  go_wp2_with fail
  refine (HS3.out w3 B HR.out).mono ?_
  rintro e w4 ⟨rfl, hb4⟩
  have hB4 := hB3.trans (hb4.mono hB3.size)
  clear hB3 hb4
  go_wp2_with fail
  go_ret
  exact ⟨rfl, hB4⟩

end Go.Proofs.Ytideanaecmoimaa
