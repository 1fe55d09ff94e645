/-
  Layer 2 (crc): Forge. By the verifier.
-/
import Derived.Test.YtideanaecmoimaaCUndo
import Derived.Test.YtideanaecmoimaaCSeal
import Derived.Deep.RegionWith
import Derived.Outline
set_option linter.unusedVariables false
namespace Go.Proofs.Ytideanaecmoimaa
open Go.RowKit

theorem Bys.sole {w w' : World} {A : Option Addr} {l : List Nat} {B : Nat} (h : Bys w A l) (hs : Sole B w w') (hne : ∀ a, A = some a → a.block ≠ B) : Bys w' A l := by
  refine ⟨fun i hi => ?_, h.2⟩
  obtain ⟨b, o, hA, hb, hc⟩ := h.1 i hi
  refine ⟨b, o, hA, Nat.lt_of_lt_of_le hb hs.size, ?_⟩
  rw [World.cell?_of_block (w := w) (a := ⟨b, o + i, none⟩) (hs.block b hb (hne _ hA))]
  exact hc

theorem Reg.sole {w w' : World} {B v C : Nat} (h : Reg w B v) (hs : Sole C w w') (hne : B ≠ C) : Reg w' B v := hs.row h hne

theorem each_take1 (W : World) (B v : Nat) (A : Option Addr) (p : List Nat) (c : Nat) (hv : v < 4294967296) (hr : Reg W B v) (hl : Bys W A p) (hne : ∀ a, A = some a → a.block ≠ B) :
    Calls Try.prog 23 #[.func (.func 24) #[.pointer (some ⟨B, 0, none⟩)] #[], .slice (some ⟨W.heap.size, 0, none⟩) 1 1] (W.alloc (.cells #[.slice A p.length c] 24)) fun e w' =>
      e = .returned (.tuple #[]) ∧ Reg w' B (fo v p) ∧ Sole B W w' := by
  have h0 : Below W.heap.size W (W.alloc (.cells #[.slice A p.length c] 24)) := (Below.refl _ _).alloc (Nat.le_refl _) _
  have hs0 : Sole B W (W.alloc (.cells #[.slice A p.length c] 24)) := Sole.of_below (N := 0) h0
  have hB := hr.lt
  refine (each_ok _ _ take_move B v hv (some ⟨W.heap.size, 0, none⟩) [p] 1 (W.alloc (.cells #[.slice A p.length c] 24)) (Row.alloc hr _) (fun X hX => ⟨fun i hi => ?_, by unfold maxLen; simp⟩)).mono ?_
  · have hi0 : i = 0 := by simpa using hi
    subst hi0
    refine ⟨W.heap.size, 0, A, c, rfl, ?_, hl.sole (hs0.trans hX) hne⟩
    rw [World.cell?_of_block (w := W.alloc (.cells #[.slice A p.length c] 24)) (a := ⟨W.heap.size, 0 + 0, none⟩) (hX.block _ (by simp) (show W.heap.size ≠ B by omega))]
    rw [cell_of_row _ _ _ _ _ _ (heap_alloc_new W _)]
    rfl
  · rintro e w' ⟨he, hr', hs'⟩
    rw [moves_fo] at hr'
    simp only [List.flatten_cons, List.flatten_nil, List.append_nil] at hr'
    exact ⟨he, hr', hs0.trans hs'⟩

theorem each_undo2 (W : World) (B v : Nat) (A : Option Addr) (s : List Nat) (n c Z : Nat) (hn : n = s.length) (hv : v < 4294967296) (hr : Reg W B v) (hl : Bys W A s) (hne : ∀ a, A = some a → a.block ≠ B) (hz : Bys W (some ⟨Z, 0, none⟩) [0, 0, 0, 0]) (hZ : Z ≠ B) :
    Calls Try.prog 23 #[.func (.func 30) #[.pointer (some ⟨B, 0, none⟩)] #[], .slice (some ⟨W.heap.size, 0, none⟩) 2 2] (W.alloc (.cells #[.slice A n c, .slice (some ⟨Z, 0, none⟩) 4 4] 24)) fun e w' =>
      e = .returned (.tuple #[]) ∧ Reg w' B (unf (unf v s) [0, 0, 0, 0]) ∧ Sole B W w' := by
  subst hn
  have h0 : Below W.heap.size W (W.alloc (.cells #[.slice A s.length c, .slice (some ⟨Z, 0, none⟩) 4 4] 24)) := (Below.refl _ _).alloc (Nat.le_refl _) _
  have hs0 : Sole B W (W.alloc (.cells #[.slice A s.length c, .slice (some ⟨Z, 0, none⟩) 4 4] 24)) := Sole.of_below (N := 0) h0
  have hB := hr.lt
  refine (each_ok _ _ undo_move B v hv (some ⟨W.heap.size, 0, none⟩) [s, [0, 0, 0, 0]] 2 (W.alloc (.cells #[.slice A s.length c, .slice (some ⟨Z, 0, none⟩) 4 4] 24)) (Row.alloc hr _) (fun X hX => ⟨fun i hi => ?_, by unfold maxLen; simp⟩)).mono ?_
  · have hcell : ∀ j, X.cell? ⟨W.heap.size, 0 + j, none⟩ = #[Value.slice A s.length c, .slice (some ⟨Z, 0, none⟩) 4 4][j]? := fun j => by
      rw [World.cell?_of_block (w := W.alloc (.cells #[.slice A s.length c, .slice (some ⟨Z, 0, none⟩) 4 4] 24)) (a := ⟨W.heap.size, 0 + j, none⟩) (hX.block _ (by simp) (show W.heap.size ≠ B by omega)),
        cell_of_row _ _ _ _ _ _ (heap_alloc_new W _), Nat.zero_add]
    have hi2 : i = 0 ∨ i = 1 := by simp at hi; omega
    rcases hi2 with rfl | rfl
    · exact ⟨W.heap.size, 0, A, c, rfl, hcell 0, hl.sole (hs0.trans hX) hne⟩
    · exact ⟨W.heap.size, 0, some ⟨Z, 0, none⟩, 4, rfl, hcell 1, hz.sole (hs0.trans hX) (fun a ha => by injection ha with ha; subst ha; exact hZ)⟩
  · rintro e w' ⟨he, hr', hs'⟩
    exact ⟨he, hr', hs0.trans hs'⟩

theorem forge_no (A : Option Addr) (n c : Nat) (at_ sum : Int) (hn : n ≤ 9223372036854775807) (h : at_ < 0 ∨ (n : Int) < at_ + 4) (w : World) :
    Calls Try.prog 20 #[.slice A n c, .int .i64 at_, .int .u32 sum] w fun e w' => e = .returned (.tuple #[.slice none 0 0, .bool false]) ∧ w = w' := by
  by_cases h0 : at_ < 0
  · go_enter Try.func20, Try.ntmps20
    go_wp2_with fail
    go_ret2
    exact ⟨rfl, rfl⟩
  · have h1 : (n : Int) - 4 < at_ := by omega
    go_enter Try.func20, Try.ntmps20
    go_wp2_with fail
    go_ret2
    exact ⟨rfl, rfl⟩

end Go.Proofs.Ytideanaecmoimaa
